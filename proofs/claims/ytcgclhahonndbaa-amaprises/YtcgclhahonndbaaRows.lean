/-
  No cell of these rows narrows 'for every input' (looked for: loops, veiled, ifaces, maps, wideKeys, modest, calm, conditions, laid).
  DERIVED. THE GIVEN ROWS OF THIS SEAT. 4 by the template 'for every input the law returns true; each argument reads behind the call as it read before'; 0 by the template 'total and deterministic' (their statements: YtcgclhahonndbaaTotals.lean).
  GIVEN WITH THE SEED: the statements are not yours to turn. If you find one false, say at which input.
  Laid BY PROGRAM, IN A SANDBOX (cutbox-rows.mjs): the forced cells as the released guide's own fill.sh prints them over the translation f895b2508a073862… (all of the seat's roots in one cut). By AI agents, Wed Nov 11 2026. No macro, syntax, notation, axiom, sorry.
-/
import Derived.Test.YtcgclhahonndbaaChecked
import GoSem.Claim
import GoSem.ClaimJoined
import GoSem.ClaimMapViews
import Derived.JoinedTies
import Derived.KernelRfl
namespace Go.Proofs.Ytcgclhahonndbaa
/- THE CELL 'sum', in the pinned program and in every row, IS THE sha256 OF THE DUMP (.gsa) THAT YtcgclhahonndbaaProg.lean LOADS. Nothing in Lean hashes anything: it is a label: what it is worth is what the hold of that sum in a sandbox is worth. -/
noncomputable def Try.pinned : Pinned := { name := "ytcgclhahonndbaa", sum := "f895b2508a073862589c5e4bce5a938a1757c9c272ffcc3710b9c83908cedd0a", checked := Try.checked }
namespace Rows
def none {H : Type} : Left H := { results := [], args := [] }

/-- 'lamplighterlaw12.AmapRises': WHATEVER THE INPUT: true; the input reads as it did. -/
def amapRisesSpec : ChangeSpec := { name := "amapRises", fn := fun _ => fun
  | [d] => { results := [.lit (.bool true)], args := [d] }
  | _ => none }
def amapRisesRow : OpenClaim := { program := "ytcgclhahonndbaa", sum := "f895b2508a073862589c5e4bce5a938a1757c9c272ffcc3710b9c83908cedd0a", func := "lamplighter/lamplighterlaw12.AmapRises", spec := "amapRises", inPlace := ["slices.overlaps[lamplighter/api.Pair]"], unfollowed := true, recurses := true, apart := false }
def AmapRisesSaid : Prop := amapRisesRow.holds Try.pinned (OpenSpec.ofChange amapRisesSpec)

/-- ITS FALSE NEIGHBOUR: 'it returns false'. Refute it at one input. -/
def amapRisesWrong : ChangeSpec := { name := "amapRises", fn := fun _ => fun
  | [d] => { results := [.lit (.bool false)], args := [d] }
  | _ => none }
def AmapRisesWrongFalsely : Prop := amapRisesRow.holds Try.pinned (OpenSpec.ofChange amapRisesWrong)

/-- 'lamplighterlaw12.AmapWrites': WHATEVER THE INPUT: true; the input reads as it did. -/
def amapWritesSpec : ChangeSpec := { name := "amapWrites", fn := fun _ => fun
  | [d1, d2, d3, d4] => { results := [.lit (.bool true)], args := [d1, d2, d3, d4] }
  | _ => none }
def amapWritesRow : OpenClaim := { program := "ytcgclhahonndbaa", sum := "f895b2508a073862589c5e4bce5a938a1757c9c272ffcc3710b9c83908cedd0a", func := "lamplighter/lamplighterlaw12.AmapWrites", spec := "amapWrites", inPlace := ["slices.overlaps[lamplighter/api.Pair]"], unfollowed := true, recurses := true, apart := false }
def AmapWritesSaid : Prop := amapWritesRow.holds Try.pinned (OpenSpec.ofChange amapWritesSpec)

/-- ITS FALSE NEIGHBOUR: 'it returns false'. Refute it at one input. -/
def amapWritesWrong : ChangeSpec := { name := "amapWrites", fn := fun _ => fun
  | [d1, d2, d3, d4] => { results := [.lit (.bool false)], args := [d1, d2, d3, d4] }
  | _ => none }
def AmapWritesWrongFalsely : Prop := amapWritesRow.holds Try.pinned (OpenSpec.ofChange amapWritesWrong)

/-- 'lamplighterlaw12.AmapTurns': WHATEVER THE INPUT: true; the input reads as it did. -/
def amapTurnsSpec : ChangeSpec := { name := "amapTurns", fn := fun _ => fun
  | [d1, d2, d3, d4] => { results := [.lit (.bool true)], args := [d1, d2, d3, d4] }
  | _ => none }
def amapTurnsRow : OpenClaim := { program := "ytcgclhahonndbaa", sum := "f895b2508a073862589c5e4bce5a938a1757c9c272ffcc3710b9c83908cedd0a", func := "lamplighter/lamplighterlaw12.AmapTurns", spec := "amapTurns", inPlace := ["slices.overlaps[lamplighter/api.Pair]"], unfollowed := true, recurses := true, apart := false }
def AmapTurnsSaid : Prop := amapTurnsRow.holds Try.pinned (OpenSpec.ofChange amapTurnsSpec)

/-- ITS FALSE NEIGHBOUR: 'it returns false'. Refute it at one input. -/
def amapTurnsWrong : ChangeSpec := { name := "amapTurns", fn := fun _ => fun
  | [d1, d2, d3, d4] => { results := [.lit (.bool false)], args := [d1, d2, d3, d4] }
  | _ => none }
def AmapTurnsWrongFalsely : Prop := amapTurnsRow.holds Try.pinned (OpenSpec.ofChange amapTurnsWrong)

/-- 'lamplighterlaw12.AmapLeaves': WHATEVER THE INPUT: true; the input reads as it did. -/
def amapLeavesSpec : ChangeSpec := { name := "amapLeaves", fn := fun _ => fun
  | [d1, d2] => { results := [.lit (.bool true)], args := [d1, d2] }
  | _ => none }
def amapLeavesRow : OpenClaim := { program := "ytcgclhahonndbaa", sum := "f895b2508a073862589c5e4bce5a938a1757c9c272ffcc3710b9c83908cedd0a", func := "lamplighter/lamplighterlaw12.AmapLeaves", spec := "amapLeaves", inPlace := ["slices.overlaps[lamplighter/api.Pair]"], unfollowed := true, recurses := true, apart := false }
def AmapLeavesSaid : Prop := amapLeavesRow.holds Try.pinned (OpenSpec.ofChange amapLeavesSpec)

/-- ITS FALSE NEIGHBOUR: 'it returns false'. Refute it at one input. -/
def amapLeavesWrong : ChangeSpec := { name := "amapLeaves", fn := fun _ => fun
  | [d1, d2] => { results := [.lit (.bool false)], args := [d1, d2] }
  | _ => none }
def AmapLeavesWrongFalsely : Prop := amapLeavesRow.holds Try.pinned (OpenSpec.ofChange amapLeavesWrong)

/- THE SECOND FORM. 'bulk': how many values and letters a reading holds, each counted each time it is reached (what is shared counts as often as it is met; a slice's spare places count too). A statement '..UptoSaid' is the law's where the arguments, and the package variables that the reading takes, are together of bulk at most 1048576: NARROWER than '..Said'. Prove '..Said' where nothing that the law and all that it calls make is longer than what came in: it says more and counts as full. Else prove '..UptoSaid'. A law counts once. -/
mutual
def uptoBulk {H : Type} : DataW H → Nat
  | .lit (.string bytes) => bytes.length + 1
  | .lit _ => 1
  | .nil => 1
  | .ptr d => uptoBulk d + 1
  | .slice elems spare => uptoBulkAll elems + uptoBulkAll spare + 1
  | .agg parts => uptoBulkAll parts + 1
  | .iface _ d => uptoBulk d + 1
  | .map entries => uptoBulkEntries entries + 1
  | .held _ => 1
def uptoBulkAll {H : Type} : List (DataW H) → Nat
  | [] => 0
  | d :: r => uptoBulk d + uptoBulkAll r
def uptoBulkEntries {H : Type} : List (Lit × DataW H) → Nat
  | [] => 0
  | x :: r => uptoBulkEntry x + uptoBulkEntries r
def uptoBulkEntry {H : Type} : Lit × DataW H → Nat
  | (.string bytes, d) => bytes.length + uptoBulk d + 1
  | (_, d) => uptoBulk d + 1
 end
def uptoSmall : (H : Type) → List (DataW H) → Bool := fun _ ds => decide (uptoBulkAll ds ≤ 1048576)
def OpenSpec.upto (s : _root_.Go.ChangeSpec) : _root_.Go.OpenSpec := { _root_.Go.OpenSpec.ofChange s with cond := some uptoSmall }

/-- 'lamplighterlaw12.AmapRises', WHERE WHAT IT READS IS OF BULK AT MOST 1048576: true; the input reads as it did. -/
def amapRisesUptoRow : OpenClaim := { program := "ytcgclhahonndbaa", sum := "f895b2508a073862589c5e4bce5a938a1757c9c272ffcc3710b9c83908cedd0a", func := "lamplighter/lamplighterlaw12.AmapRises", spec := "amapRises", inPlace := ["slices.overlaps[lamplighter/api.Pair]"], unfollowed := true, recurses := true, apart := false, narrowed := true }
def AmapRisesUptoSaid : Prop := amapRisesUptoRow.holds Try.pinned (OpenSpec.upto amapRisesSpec)

/-- 'lamplighterlaw12.AmapWrites', WHERE WHAT IT READS IS OF BULK AT MOST 1048576: true; the input reads as it did. -/
def amapWritesUptoRow : OpenClaim := { program := "ytcgclhahonndbaa", sum := "f895b2508a073862589c5e4bce5a938a1757c9c272ffcc3710b9c83908cedd0a", func := "lamplighter/lamplighterlaw12.AmapWrites", spec := "amapWrites", inPlace := ["slices.overlaps[lamplighter/api.Pair]"], unfollowed := true, recurses := true, apart := false, narrowed := true }
def AmapWritesUptoSaid : Prop := amapWritesUptoRow.holds Try.pinned (OpenSpec.upto amapWritesSpec)

/-- 'lamplighterlaw12.AmapTurns', WHERE WHAT IT READS IS OF BULK AT MOST 1048576: true; the input reads as it did. -/
def amapTurnsUptoRow : OpenClaim := { program := "ytcgclhahonndbaa", sum := "f895b2508a073862589c5e4bce5a938a1757c9c272ffcc3710b9c83908cedd0a", func := "lamplighter/lamplighterlaw12.AmapTurns", spec := "amapTurns", inPlace := ["slices.overlaps[lamplighter/api.Pair]"], unfollowed := true, recurses := true, apart := false, narrowed := true }
def AmapTurnsUptoSaid : Prop := amapTurnsUptoRow.holds Try.pinned (OpenSpec.upto amapTurnsSpec)

/-- 'lamplighterlaw12.AmapLeaves', WHERE WHAT IT READS IS OF BULK AT MOST 1048576: true; the input reads as it did. -/
def amapLeavesUptoRow : OpenClaim := { program := "ytcgclhahonndbaa", sum := "f895b2508a073862589c5e4bce5a938a1757c9c272ffcc3710b9c83908cedd0a", func := "lamplighter/lamplighterlaw12.AmapLeaves", spec := "amapLeaves", inPlace := ["slices.overlaps[lamplighter/api.Pair]"], unfollowed := true, recurses := true, apart := false, narrowed := true }
def AmapLeavesUptoSaid : Prop := amapLeavesUptoRow.holds Try.pinned (OpenSpec.upto amapLeavesSpec)

end Rows
end Go.Proofs.Ytcgclhahonndbaa
