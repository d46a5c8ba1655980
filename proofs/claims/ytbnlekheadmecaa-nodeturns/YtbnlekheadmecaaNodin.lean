/- Nodes that come in, as they are read. -/
import Derived.Test.YtbnlekheadmecaaNodl
import Derived.Lib.SmallJoins
namespace Go.Proofs.Ytbnlekheadmecaa
open Go.RowKit Go.ChangeShapes Go.WideShapes
set_option linter.unusedVariables false

section
variable {H : Type} {enc : TypeId × Value → H} {W : World} {base : Nat} {held : Bool}
/-- A struct of five fields that comes in. -/
theorem trod_struct5 {t : TypeId} {f0 f1 f2 f3 f4 : Field} {fuel : Nat} {cs : List Value} {x : DataW H × List MemPlace} (ht : Try.prog.underlying t = some (.struct #[f0, f1, f2, f3, f4])) (h : DataW.trod enc Try.prog W base (fun _ => true) held fuel t cs = some x) :
    ∃ y0 y1 y2 y3 y4 n, cs.length = Try.prog.cellsOf t ∧ DataW.trod enc Try.prog W base (fun _ => true) held n f0.type ((cs.drop f0.offset).take (Try.prog.cellsOf f0.type)) = some y0 ∧
      DataW.trod enc Try.prog W base (fun _ => true) held n f1.type ((cs.drop f1.offset).take (Try.prog.cellsOf f1.type)) = some y1 ∧ DataW.trod enc Try.prog W base (fun _ => true) held n f2.type ((cs.drop f2.offset).take (Try.prog.cellsOf f2.type)) = some y2 ∧
      DataW.trod enc Try.prog W base (fun _ => true) held n f3.type ((cs.drop f3.offset).take (Try.prog.cellsOf f3.type)) = some y3 ∧ DataW.trod enc Try.prog W base (fun _ => true) held n f4.type ((cs.drop f4.offset).take (Try.prog.cellsOf f4.type)) = some y4 := by
  obtain ⟨xs, n, _, rfl, hl, hlen, hf⟩ := DataW.trod_struct ht h
  match xs, hlen with
  | [y0, y1, y2, y3, y4], _ => exact ⟨y0, y1, y2, y3, y4, n, hl, by simpa using hf 0 f0 rfl, by simpa using hf 1 f1 rfl, by simpa using hf 2 f2 rfl, by simpa using hf 3 f3 rfl, by simpa using hf 4 f4 rfl⟩
set_option maxRecDepth 100000 in
theorem node_of_trod {fuel : Nat} {cs : List Value} {x : DataW H × List MemPlace} (h : DataW.trod enc Try.prog W base (fun _ => true) held fuel 24 cs = some x) : ∃ lv tu nx lo a len cap, cs = [.int .i64 lv, .int .i64 tu, .int .i64 nx, .int .i64 lo, .slice a len cap] ∧ RowIn W a len cap := by
  have ce : Try.prog.cellsOf 24 = 5 := by kernel_rfl
  obtain ⟨y0, y1, y2, y3, y4, k, hl, g0, g1, g2, g3, g4⟩ := trod_struct5 Try.underlying24 h
  rw [ce] at hl
  match cs, hl with
  | [v0, v1, v2, v3, v4], _ =>
    obtain ⟨z0, q0, _⟩ := DataW.trod_int Try.underlying3 (show DataW.trod enc Try.prog W base (fun _ => true) held k 3 [v0] = some y0 from g0)
    obtain ⟨z1, q1, _⟩ := DataW.trod_int Try.underlying3 (show DataW.trod enc Try.prog W base (fun _ => true) held k 3 [v1] = some y1 from g1)
    obtain ⟨z2, q2, _⟩ := DataW.trod_int Try.underlying3 (show DataW.trod enc Try.prog W base (fun _ => true) held k 3 [v2] = some y2 from g2)
    obtain ⟨z3, q3, _⟩ := DataW.trod_int Try.underlying3 (show DataW.trod enc Try.prog W base (fun _ => true) held k 3 [v3] = some y3 from g3)
    obtain ⟨a, len, cap, q4, hR⟩ := wide_of_trod (show DataW.trod enc Try.prog W base (fun _ => true) held k 22 [v4] = some y4 from g4)
    cases q0
    cases q1
    cases q2
    cases q3
    subst q4
    exact ⟨z0, z1, z2, z3, a, len, cap, rfl, hR⟩
end
end Go.Proofs.Ytbnlekheadmecaa
