/-
  No cell of these rows narrows 'for every input' (looked for: loops, veiled, ifaces, maps, wideKeys, modest, calm, conditions, laid).
  DERIVED. THE GIVEN ROWS OF THIS SEAT. 6 by the template 'for every input the law returns true; each argument reads behind the call as it read before'; 0 by the template 'total and deterministic' (their statements: YtoboiahknapddaaTotals.lean).
  GIVEN WITH THE SEED: the statements are not yours to turn. If you find one false, say at which input.
  Laid BY PROGRAM, IN A SANDBOX (cutbox-rows.mjs): the forced cells as the released guide's own fill.sh prints them over the translation 88b402d152bfa953… (all of the seat's roots in one cut). By AI agents, Wed Nov 11 2026. No macro, syntax, notation, axiom, sorry.
-/
import Derived.Test.YtoboiahknapddaaChecked
import GoSem.Claim
import GoSem.ClaimJoined
import GoSem.ClaimMapViews
import Derived.JoinedTies
import Derived.KernelRfl
namespace Go.Proofs.Ytoboiahknapddaa
/- THE CELL 'sum', in the pinned program and in every row, IS THE sha256 OF THE DUMP (.gsa) THAT YtoboiahknapddaaProg.lean LOADS. Nothing in Lean hashes anything: it is a label: what it is worth is what the hold of that sum in a sandbox is worth. -/
noncomputable def Try.pinned : Pinned := { name := "ytoboiahknapddaa", sum := "88b402d152bfa9537715136a119ae389ed6aefcf3ad74103fef11b96e9b172e1", checked := Try.checked }
namespace Rows
def none {H : Type} : Left H := { results := [], args := [] }

/-- 'lamplighterlaw06.FastTells': WHATEVER THE INPUT: true; the input reads as it did. -/
def fastTellsSpec : ChangeSpec := { name := "fastTells", fn := fun _ => fun
  | [d1, d2, d3, d4, d5] => { results := [.lit (.bool true)], args := [d1, d2, d3, d4, d5] }
  | _ => none }
def fastTellsRow : OpenClaim := { program := "ytoboiahknapddaa", sum := "88b402d152bfa9537715136a119ae389ed6aefcf3ad74103fef11b96e9b172e1", func := "lamplighter/lamplighterlaw06.FastTells", spec := "fastTells", unfollowed := true, recurses := true, apart := false }
def FastTellsSaid : Prop := fastTellsRow.holds Try.pinned (OpenSpec.ofChange fastTellsSpec)

/-- ITS FALSE NEIGHBOUR: 'it returns false'. Refute it at one input. -/
def fastTellsWrong : ChangeSpec := { name := "fastTells", fn := fun _ => fun
  | [d1, d2, d3, d4, d5] => { results := [.lit (.bool false)], args := [d1, d2, d3, d4, d5] }
  | _ => none }
def FastTellsWrongFalsely : Prop := fastTellsRow.holds Try.pinned (OpenSpec.ofChange fastTellsWrong)

/-- 'lamplighterlaw06.FastInserts': WHATEVER THE INPUT: true; the input reads as it did. -/
def fastInsertsSpec : ChangeSpec := { name := "fastInserts", fn := fun _ => fun
  | [d1, d2, d3, d4, d5] => { results := [.lit (.bool true)], args := [d1, d2, d3, d4, d5] }
  | _ => none }
def fastInsertsRow : OpenClaim := { program := "ytoboiahknapddaa", sum := "88b402d152bfa9537715136a119ae389ed6aefcf3ad74103fef11b96e9b172e1", func := "lamplighter/lamplighterlaw06.FastInserts", spec := "fastInserts", unfollowed := true, recurses := true, apart := false }
def FastInsertsSaid : Prop := fastInsertsRow.holds Try.pinned (OpenSpec.ofChange fastInsertsSpec)

/-- ITS FALSE NEIGHBOUR: 'it returns false'. Refute it at one input. -/
def fastInsertsWrong : ChangeSpec := { name := "fastInserts", fn := fun _ => fun
  | [d1, d2, d3, d4, d5] => { results := [.lit (.bool false)], args := [d1, d2, d3, d4, d5] }
  | _ => none }
def FastInsertsWrongFalsely : Prop := fastInsertsRow.holds Try.pinned (OpenSpec.ofChange fastInsertsWrong)

/-- 'lamplighterlaw06.FastDeletes': WHATEVER THE INPUT: true; the input reads as it did. -/
def fastDeletesSpec : ChangeSpec := { name := "fastDeletes", fn := fun _ => fun
  | [d1, d2, d3, d4] => { results := [.lit (.bool true)], args := [d1, d2, d3, d4] }
  | _ => none }
def fastDeletesRow : OpenClaim := { program := "ytoboiahknapddaa", sum := "88b402d152bfa9537715136a119ae389ed6aefcf3ad74103fef11b96e9b172e1", func := "lamplighter/lamplighterlaw06.FastDeletes", spec := "fastDeletes", unfollowed := true, recurses := true, apart := false }
def FastDeletesSaid : Prop := fastDeletesRow.holds Try.pinned (OpenSpec.ofChange fastDeletesSpec)

/-- ITS FALSE NEIGHBOUR: 'it returns false'. Refute it at one input. -/
def fastDeletesWrong : ChangeSpec := { name := "fastDeletes", fn := fun _ => fun
  | [d1, d2, d3, d4] => { results := [.lit (.bool false)], args := [d1, d2, d3, d4] }
  | _ => none }
def FastDeletesWrongFalsely : Prop := fastDeletesRow.holds Try.pinned (OpenSpec.ofChange fastDeletesWrong)

/-- 'lamplighterlaw06.FastCuts': WHATEVER THE INPUT: true; the input reads as it did. -/
def fastCutsSpec : ChangeSpec := { name := "fastCuts", fn := fun _ => fun
  | [d1, d2, d3, d4, d5] => { results := [.lit (.bool true)], args := [d1, d2, d3, d4, d5] }
  | _ => none }
def fastCutsRow : OpenClaim := { program := "ytoboiahknapddaa", sum := "88b402d152bfa9537715136a119ae389ed6aefcf3ad74103fef11b96e9b172e1", func := "lamplighter/lamplighterlaw06.FastCuts", spec := "fastCuts", unfollowed := true, recurses := true, apart := false }
def FastCutsSaid : Prop := fastCutsRow.holds Try.pinned (OpenSpec.ofChange fastCutsSpec)

/-- ITS FALSE NEIGHBOUR: 'it returns false'. Refute it at one input. -/
def fastCutsWrong : ChangeSpec := { name := "fastCuts", fn := fun _ => fun
  | [d1, d2, d3, d4, d5] => { results := [.lit (.bool false)], args := [d1, d2, d3, d4, d5] }
  | _ => none }
def FastCutsWrongFalsely : Prop := fastCutsRow.holds Try.pinned (OpenSpec.ofChange fastCutsWrong)

/-- 'lamplighterlaw06.FastSteps': WHATEVER THE INPUT: true; the input reads as it did. -/
def fastStepsSpec : ChangeSpec := { name := "fastSteps", fn := fun _ => fun
  | [d1, d2, d3, d4] => { results := [.lit (.bool true)], args := [d1, d2, d3, d4] }
  | _ => none }
def fastStepsRow : OpenClaim := { program := "ytoboiahknapddaa", sum := "88b402d152bfa9537715136a119ae389ed6aefcf3ad74103fef11b96e9b172e1", func := "lamplighter/lamplighterlaw06.FastSteps", spec := "fastSteps", unfollowed := true, recurses := true, apart := false }
def FastStepsSaid : Prop := fastStepsRow.holds Try.pinned (OpenSpec.ofChange fastStepsSpec)

/-- ITS FALSE NEIGHBOUR: 'it returns false'. Refute it at one input. -/
def fastStepsWrong : ChangeSpec := { name := "fastSteps", fn := fun _ => fun
  | [d1, d2, d3, d4] => { results := [.lit (.bool false)], args := [d1, d2, d3, d4] }
  | _ => none }
def FastStepsWrongFalsely : Prop := fastStepsRow.holds Try.pinned (OpenSpec.ofChange fastStepsWrong)

/-- 'lamplighterlaw06.FastBack': WHATEVER THE INPUT: true; the input reads as it did. -/
def fastBackSpec : ChangeSpec := { name := "fastBack", fn := fun _ => fun
  | [d1, d2, d3] => { results := [.lit (.bool true)], args := [d1, d2, d3] }
  | _ => none }
def fastBackRow : OpenClaim := { program := "ytoboiahknapddaa", sum := "88b402d152bfa9537715136a119ae389ed6aefcf3ad74103fef11b96e9b172e1", func := "lamplighter/lamplighterlaw06.FastBack", spec := "fastBack", unfollowed := true, recurses := true, apart := false }
def FastBackSaid : Prop := fastBackRow.holds Try.pinned (OpenSpec.ofChange fastBackSpec)

/-- ITS FALSE NEIGHBOUR: 'it returns false'. Refute it at one input. -/
def fastBackWrong : ChangeSpec := { name := "fastBack", fn := fun _ => fun
  | [d1, d2, d3] => { results := [.lit (.bool false)], args := [d1, d2, d3] }
  | _ => none }
def FastBackWrongFalsely : Prop := fastBackRow.holds Try.pinned (OpenSpec.ofChange fastBackWrong)

/- THE SECOND FORM. 'bulk': how many values and letters a reading holds, each counted each time it is reached (what is shared counts as often as it is met; a slice's spare places count too). A statement '..UptoSaid' is the law's where the arguments, and the package variables that the reading takes, are together of bulk at most 1048576: NARROWER than '..Said'. Prove '..Said' where nothing that the law and all that it calls make is longer than what came in: it says more and counts as full. Else prove '..UptoSaid'. A law counts once. -/
mutual
def uptoBulk {H : Type} : DataW H → Nat
  | .lit (.string bytes) => bytes.length + 1
  | .lit _ => 1
  | .nil => 1
  | .ptr d => uptoBulk d + 1
  | .slice elems spare => uptoBulkAll elems + uptoBulkAll spare + 1
  | .agg parts => uptoBulkAll parts + 1
  | .iface _ d => uptoBulk d + 1
  | .map entries => uptoBulkEntries entries + 1
  | .held _ => 1
def uptoBulkAll {H : Type} : List (DataW H) → Nat
  | [] => 0
  | d :: r => uptoBulk d + uptoBulkAll r
def uptoBulkEntries {H : Type} : List (Lit × DataW H) → Nat
  | [] => 0
  | x :: r => uptoBulkEntry x + uptoBulkEntries r
def uptoBulkEntry {H : Type} : Lit × DataW H → Nat
  | (.string bytes, d) => bytes.length + uptoBulk d + 1
  | (_, d) => uptoBulk d + 1
 end
def uptoSmall : (H : Type) → List (DataW H) → Bool := fun _ ds => decide (uptoBulkAll ds ≤ 1048576)
def OpenSpec.upto (s : _root_.Go.ChangeSpec) : _root_.Go.OpenSpec := { _root_.Go.OpenSpec.ofChange s with cond := some uptoSmall }

/-- 'lamplighterlaw06.FastTells', WHERE WHAT IT READS IS OF BULK AT MOST 1048576: true; the input reads as it did. -/
def fastTellsUptoRow : OpenClaim := { program := "ytoboiahknapddaa", sum := "88b402d152bfa9537715136a119ae389ed6aefcf3ad74103fef11b96e9b172e1", func := "lamplighter/lamplighterlaw06.FastTells", spec := "fastTells", unfollowed := true, recurses := true, apart := false, narrowed := true }
def FastTellsUptoSaid : Prop := fastTellsUptoRow.holds Try.pinned (OpenSpec.upto fastTellsSpec)

/-- 'lamplighterlaw06.FastInserts', WHERE WHAT IT READS IS OF BULK AT MOST 1048576: true; the input reads as it did. -/
def fastInsertsUptoRow : OpenClaim := { program := "ytoboiahknapddaa", sum := "88b402d152bfa9537715136a119ae389ed6aefcf3ad74103fef11b96e9b172e1", func := "lamplighter/lamplighterlaw06.FastInserts", spec := "fastInserts", unfollowed := true, recurses := true, apart := false, narrowed := true }
def FastInsertsUptoSaid : Prop := fastInsertsUptoRow.holds Try.pinned (OpenSpec.upto fastInsertsSpec)

/-- 'lamplighterlaw06.FastDeletes', WHERE WHAT IT READS IS OF BULK AT MOST 1048576: true; the input reads as it did. -/
def fastDeletesUptoRow : OpenClaim := { program := "ytoboiahknapddaa", sum := "88b402d152bfa9537715136a119ae389ed6aefcf3ad74103fef11b96e9b172e1", func := "lamplighter/lamplighterlaw06.FastDeletes", spec := "fastDeletes", unfollowed := true, recurses := true, apart := false, narrowed := true }
def FastDeletesUptoSaid : Prop := fastDeletesUptoRow.holds Try.pinned (OpenSpec.upto fastDeletesSpec)

/-- 'lamplighterlaw06.FastCuts', WHERE WHAT IT READS IS OF BULK AT MOST 1048576: true; the input reads as it did. -/
def fastCutsUptoRow : OpenClaim := { program := "ytoboiahknapddaa", sum := "88b402d152bfa9537715136a119ae389ed6aefcf3ad74103fef11b96e9b172e1", func := "lamplighter/lamplighterlaw06.FastCuts", spec := "fastCuts", unfollowed := true, recurses := true, apart := false, narrowed := true }
def FastCutsUptoSaid : Prop := fastCutsUptoRow.holds Try.pinned (OpenSpec.upto fastCutsSpec)

/-- 'lamplighterlaw06.FastSteps', WHERE WHAT IT READS IS OF BULK AT MOST 1048576: true; the input reads as it did. -/
def fastStepsUptoRow : OpenClaim := { program := "ytoboiahknapddaa", sum := "88b402d152bfa9537715136a119ae389ed6aefcf3ad74103fef11b96e9b172e1", func := "lamplighter/lamplighterlaw06.FastSteps", spec := "fastSteps", unfollowed := true, recurses := true, apart := false, narrowed := true }
def FastStepsUptoSaid : Prop := fastStepsUptoRow.holds Try.pinned (OpenSpec.upto fastStepsSpec)

/-- 'lamplighterlaw06.FastBack', WHERE WHAT IT READS IS OF BULK AT MOST 1048576: true; the input reads as it did. -/
def fastBackUptoRow : OpenClaim := { program := "ytoboiahknapddaa", sum := "88b402d152bfa9537715136a119ae389ed6aefcf3ad74103fef11b96e9b172e1", func := "lamplighter/lamplighterlaw06.FastBack", spec := "fastBack", unfollowed := true, recurses := true, apart := false, narrowed := true }
def FastBackUptoSaid : Prop := fastBackUptoRow.holds Try.pinned (OpenSpec.upto fastBackSpec)

end Rows
end Go.Proofs.Ytoboiahknapddaa
