/- Records that come in, as they are read. -/
import Derived.Test.YtmhojhpfkieioaaRecnum
import Derived.Test.YtmhojhpfkieioaaLawa
import Derived.Lib.SmallJoins
namespace Go.Proofs.Ytmhojhpfkieioaa
open Go.RowKit Go.ChangeShapes Go.WideShapes
set_option linter.unusedVariables false

section
variable {H : Type} {enc : TypeId × Value → H} {W : World} {base : Nat} {held : Bool}
set_option maxRecDepth 100000 in
theorem rec_of_trod {fuel : Nat} {cs : List Value} {x : DataW H × List MemPlace} (h : DataW.trod enc Try.prog W base (fun _ => true) held fuel 23 cs = some x) : ∃ y : Rc, cs = [.int .i64 y.k, .string y.key, .string y.val, .int .i64 y.ch] := by
  have ce : Try.prog.cellsOf 23 = 4 := by kernel_rfl
  obtain ⟨y0, y1, y2, y3, k, _, hl, g0, g1, g2, g3⟩ := Go.Joins.trod_struct4 Try.underlying23 h
  rw [ce] at hl
  match cs, hl with
  | [v0, v1, v2, v3], _ =>
    obtain ⟨z0, q0, _⟩ := DataW.trod_int Try.underlying3 (show DataW.trod enc Try.prog W base (fun _ => true) held k 3 [v0] = some y0 from g0)
    obtain ⟨z1, q1, _⟩ := DataW.trod_string Try.underlying9 (show DataW.trod enc Try.prog W base (fun _ => true) held k 9 [v1] = some y1 from g1)
    obtain ⟨z2, q2, _⟩ := DataW.trod_string Try.underlying9 (show DataW.trod enc Try.prog W base (fun _ => true) held k 9 [v2] = some y2 from g2)
    obtain ⟨z3, q3, _⟩ := DataW.trod_int Try.underlying3 (show DataW.trod enc Try.prog W base (fun _ => true) held k 3 [v3] = some y3 from g3)
    cases q0
    cases q1
    cases q2
    cases q3
    exact ⟨⟨z0, z1, z2, z3⟩, rfl⟩
end
end Go.Proofs.Ytmhojhpfkieioaa
