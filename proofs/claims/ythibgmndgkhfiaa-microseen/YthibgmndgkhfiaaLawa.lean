/- Walks of layer 4's statements: turns. -/
import Derived.Test.YthibgmndgkhfiaaNumd
import Derived.Test.YthibgmndgkhfiaaWalkp
import Derived.Laws.StructEq
namespace Go.Proofs.Ythibgmndgkhfiaa
open Go.RowKit Go.Shelf
set_option linter.unusedVariables false

/-- What a statement is told of a memory that comes in: few of it is read. -/
def MemIn (W : World) (a1 a2 a3 : Option Addr) (n1 n2 n3 c1 c2 c3 : Nat) : Prop := n1 ≤ 300 → n2 ≤ 300 → n3 ≤ 100 → ∃ m : Mm, m.vol.length = n1 ∧ m.per.length = n2 ∧ m.pend.length = n3 ∧ RdM W (.slice a1 n1 c1) (.slice a2 n2 c2) (.slice a3 n3 c3) m
def KeepIn (W : World) (a : Option Addr) (n c : Nat) : Prop := n ≤ 300 → ∃ zs : List Int, zs.length = n ∧ Rd W (.slice a n c) zs ∧ Bd zs
theorem RdP.base {W : World} {a : Option Addr} {n c : Nat} {ps : List Pd} (h : RdP W (.slice a n c) ps) (h0 : 0 < ps.length) : ∃ b off, a = some ⟨b, off, none⟩ ∧ True := by
  obtain ⟨b, off, e, _⟩ := h.at 0 h0
  exact ⟨b, off, e, trivial⟩
theorem Rd.cell {W : World} {b off n c : Nat} {zs : List Int} (h : Rd W (.slice (some ⟨b, off, none⟩) n c) zs) {k : Nat} {z : Int} (hz : zs[k]? = some z) : W.cell? ⟨b, off + k, none⟩ = some (.int .i64 z) := by
  obtain ⟨hk, rfl⟩ := List.getElem?_eq_some_iff.1 hz
  obtain ⟨b', off', e, hc⟩ := h.at k hk
  cases e
  exact hc
theorem RdP.cells {W : World} {b off n c : Nat} {ps : List Pd} (h : RdP W (.slice (some ⟨b, off, none⟩) n c) ps) {k : Nat} {p : Pd} (hp : ps[k]? = some p) : W.cell? ⟨b, off + k * 3, none⟩ = some (.int .i64 p.a) ∧ W.cell? ⟨b, off + k * 3 + 1, none⟩ = some (.int .i64 p.v) ∧ W.cell? ⟨b, off + k * 3 + 2, none⟩ = some (.bool p.f) := by
  obtain ⟨b', off', e, hc⟩ := h.get hp
  cases e
  exact hc
open Classical in
theorem eq41 (x y x' y' : Int) (z z' : Bool) (w : World) : (binOp .eql 55 (.agg #[.int .i64 x, .int .i64 y, .bool z]) (.agg #[.int .i64 x', .int .i64 y', .bool z'])).run Try.prog w = .ok (.bool (decide (Pd.mk x y z = Pd.mk x' y' z'))) w := by
  have u3 := Try.underlying3
  have a3 := Try.isAgg3
  have z3 := Try.sizeOf3
  have u4 := Try.underlying4
  have a4 := Try.isAgg4
  have z4 := Try.sizeOf4
  have hS : Try.prog.underlying 55 = some (.struct (Try.prog.fieldsOf 55)) := by kernel_rfl
  have hp : Try.prog.stoodInHeld 55 = false := by kernel_rfl
  rw [run_eql_struct, show (10000 : Nat) = 9999 + 1 from rfl, run_equalIn_agg w 9999 55 _ _ hS hp]
  simp only [Program.fieldsOf, Try.underlying55]
  go_simp
  by_cases h1 : x = x' <;> by_cases h2 : y = y' <;> by_cases h3 : z = z' <;> simp [h1, h2, h3]






end Go.Proofs.Ythibgmndgkhfiaa

