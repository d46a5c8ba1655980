/-
  No cell of these rows narrows 'for every input' (looked for: loops, veiled, ifaces, maps, wideKeys, modest, calm, conditions, laid).
  DERIVED. THE GIVEN ROWS OF THIS SEAT. 5 by the template 'for every input the law returns true; each argument reads behind the call as it read before'; 0 by the template 'total and deterministic' (their statements: YthibgmndgkhfiaaTotals.lean).
  GIVEN WITH THE SEED: the statements are not yours to turn. If you find one false, say at which input.
  Laid BY PROGRAM, IN A SANDBOX (cutbox-rows.mjs): the forced cells as the released guide's own fill.sh prints them over the translation 6dec41e073a69b73… (all of the seat's roots in one cut). By AI agents, Wed Nov 11 2026. No macro, syntax, notation, axiom, sorry.
-/
import Derived.Test.YthibgmndgkhfiaaChecked
import GoSem.Claim
import GoSem.ClaimJoined
import GoSem.ClaimMapViews
import Derived.JoinedTies
import Derived.KernelRfl
namespace Go.Proofs.Ythibgmndgkhfiaa
/- THE CELL 'sum', in the pinned program and in every row, IS THE sha256 OF THE DUMP (.gsa) THAT YthibgmndgkhfiaaProg.lean LOADS. Nothing in Lean hashes anything: it is a label: what it is worth is what the hold of that sum in a sandbox is worth. -/
noncomputable def Try.pinned : Pinned := { name := "ythibgmndgkhfiaa", sum := "6dec41e073a69b73888ca8db842c2687dfafc0cf7e23b313c5fb8937c874eddb", checked := Try.checked }
namespace Rows
def none {H : Type} : Left H := { results := [], args := [] }

/-- 'lamplighterlaw05.MicroTells': WHATEVER THE INPUT: true; the input reads as it did. -/
def microTellsSpec : ChangeSpec := { name := "microTells", fn := fun _ => fun
  | [d1, d2, d3, d4, d5] => { results := [.lit (.bool true)], args := [d1, d2, d3, d4, d5] }
  | _ => none }
def microTellsRow : OpenClaim := { program := "ythibgmndgkhfiaa", sum := "6dec41e073a69b73888ca8db842c2687dfafc0cf7e23b313c5fb8937c874eddb", func := "lamplighter/lamplighterlaw05.MicroTells", spec := "microTells", unfollowed := true, recurses := true, apart := false }
def MicroTellsSaid : Prop := microTellsRow.holds Try.pinned (OpenSpec.ofChange microTellsSpec)

/-- ITS FALSE NEIGHBOUR: 'it returns false'. Refute it at one input. -/
def microTellsWrong : ChangeSpec := { name := "microTells", fn := fun _ => fun
  | [d1, d2, d3, d4, d5] => { results := [.lit (.bool false)], args := [d1, d2, d3, d4, d5] }
  | _ => none }
def MicroTellsWrongFalsely : Prop := microTellsRow.holds Try.pinned (OpenSpec.ofChange microTellsWrong)

/-- 'lamplighterlaw05.MicroParts': WHATEVER THE INPUT: true; the input reads as it did. -/
def microPartsSpec : ChangeSpec := { name := "microParts", fn := fun _ => fun
  | [d1, d2, d3] => { results := [.lit (.bool true)], args := [d1, d2, d3] }
  | _ => none }
def microPartsRow : OpenClaim := { program := "ythibgmndgkhfiaa", sum := "6dec41e073a69b73888ca8db842c2687dfafc0cf7e23b313c5fb8937c874eddb", func := "lamplighter/lamplighterlaw05.MicroParts", spec := "microParts", unfollowed := true, recurses := true, apart := false }
def MicroPartsSaid : Prop := microPartsRow.holds Try.pinned (OpenSpec.ofChange microPartsSpec)

/-- ITS FALSE NEIGHBOUR: 'it returns false'. Refute it at one input. -/
def microPartsWrong : ChangeSpec := { name := "microParts", fn := fun _ => fun
  | [d1, d2, d3] => { results := [.lit (.bool false)], args := [d1, d2, d3] }
  | _ => none }
def MicroPartsWrongFalsely : Prop := microPartsRow.holds Try.pinned (OpenSpec.ofChange microPartsWrong)

/-- 'lamplighterlaw05.MicroKept': WHATEVER THE INPUT: true; the input reads as it did. -/
def microKeptSpec : ChangeSpec := { name := "microKept", fn := fun _ => fun
  | [d1, d2, d3, d4] => { results := [.lit (.bool true)], args := [d1, d2, d3, d4] }
  | _ => none }
def microKeptRow : OpenClaim := { program := "ythibgmndgkhfiaa", sum := "6dec41e073a69b73888ca8db842c2687dfafc0cf7e23b313c5fb8937c874eddb", func := "lamplighter/lamplighterlaw05.MicroKept", spec := "microKept", unfollowed := true, recurses := true, apart := false }
def MicroKeptSaid : Prop := microKeptRow.holds Try.pinned (OpenSpec.ofChange microKeptSpec)

/-- ITS FALSE NEIGHBOUR: 'it returns false'. Refute it at one input. -/
def microKeptWrong : ChangeSpec := { name := "microKept", fn := fun _ => fun
  | [d1, d2, d3, d4] => { results := [.lit (.bool false)], args := [d1, d2, d3, d4] }
  | _ => none }
def MicroKeptWrongFalsely : Prop := microKeptRow.holds Try.pinned (OpenSpec.ofChange microKeptWrong)

/-- 'lamplighterlaw05.MicroSeen': WHATEVER THE INPUT: true; the input reads as it did. -/
def microSeenSpec : ChangeSpec := { name := "microSeen", fn := fun _ => fun
  | [d1, d2] => { results := [.lit (.bool true)], args := [d1, d2] }
  | _ => none }
def microSeenRow : OpenClaim := { program := "ythibgmndgkhfiaa", sum := "6dec41e073a69b73888ca8db842c2687dfafc0cf7e23b313c5fb8937c874eddb", func := "lamplighter/lamplighterlaw05.MicroSeen", spec := "microSeen", unfollowed := true, recurses := true, apart := false }
def MicroSeenSaid : Prop := microSeenRow.holds Try.pinned (OpenSpec.ofChange microSeenSpec)

/-- ITS FALSE NEIGHBOUR: 'it returns false'. Refute it at one input. -/
def microSeenWrong : ChangeSpec := { name := "microSeen", fn := fun _ => fun
  | [d1, d2] => { results := [.lit (.bool false)], args := [d1, d2] }
  | _ => none }
def MicroSeenWrongFalsely : Prop := microSeenRow.holds Try.pinned (OpenSpec.ofChange microSeenWrong)

/-- 'lamplighterlaw05.MicroApart': WHATEVER THE INPUT: true; the input reads as it did. -/
def microApartSpec : ChangeSpec := { name := "microApart", fn := fun _ => fun
  | [d1, d2, d3] => { results := [.lit (.bool true)], args := [d1, d2, d3] }
  | _ => none }
def microApartRow : OpenClaim := { program := "ythibgmndgkhfiaa", sum := "6dec41e073a69b73888ca8db842c2687dfafc0cf7e23b313c5fb8937c874eddb", func := "lamplighter/lamplighterlaw05.MicroApart", spec := "microApart", unfollowed := true, recurses := true, apart := false }
def MicroApartSaid : Prop := microApartRow.holds Try.pinned (OpenSpec.ofChange microApartSpec)

/-- ITS FALSE NEIGHBOUR: 'it returns false'. Refute it at one input. -/
def microApartWrong : ChangeSpec := { name := "microApart", fn := fun _ => fun
  | [d1, d2, d3] => { results := [.lit (.bool false)], args := [d1, d2, d3] }
  | _ => none }
def MicroApartWrongFalsely : Prop := microApartRow.holds Try.pinned (OpenSpec.ofChange microApartWrong)

/- THE SECOND FORM. 'bulk': how many values and letters a reading holds, each counted each time it is reached (what is shared counts as often as it is met; a slice's spare places count too). A statement '..UptoSaid' is the law's where the arguments, and the package variables that the reading takes, are together of bulk at most 1048576: NARROWER than '..Said'. Prove '..Said' where nothing that the law and all that it calls make is longer than what came in: it says more and counts as full. Else prove '..UptoSaid'. A law counts once. -/
mutual
def uptoBulk {H : Type} : DataW H → Nat
  | .lit (.string bytes) => bytes.length + 1
  | .lit _ => 1
  | .nil => 1
  | .ptr d => uptoBulk d + 1
  | .slice elems spare => uptoBulkAll elems + uptoBulkAll spare + 1
  | .agg parts => uptoBulkAll parts + 1
  | .iface _ d => uptoBulk d + 1
  | .map entries => uptoBulkEntries entries + 1
  | .held _ => 1
def uptoBulkAll {H : Type} : List (DataW H) → Nat
  | [] => 0
  | d :: r => uptoBulk d + uptoBulkAll r
def uptoBulkEntries {H : Type} : List (Lit × DataW H) → Nat
  | [] => 0
  | x :: r => uptoBulkEntry x + uptoBulkEntries r
def uptoBulkEntry {H : Type} : Lit × DataW H → Nat
  | (.string bytes, d) => bytes.length + uptoBulk d + 1
  | (_, d) => uptoBulk d + 1
 end
def uptoSmall : (H : Type) → List (DataW H) → Bool := fun _ ds => decide (uptoBulkAll ds ≤ 1048576)
def OpenSpec.upto (s : _root_.Go.ChangeSpec) : _root_.Go.OpenSpec := { _root_.Go.OpenSpec.ofChange s with cond := some uptoSmall }

/-- 'lamplighterlaw05.MicroTells', WHERE WHAT IT READS IS OF BULK AT MOST 1048576: true; the input reads as it did. -/
def microTellsUptoRow : OpenClaim := { program := "ythibgmndgkhfiaa", sum := "6dec41e073a69b73888ca8db842c2687dfafc0cf7e23b313c5fb8937c874eddb", func := "lamplighter/lamplighterlaw05.MicroTells", spec := "microTells", unfollowed := true, recurses := true, apart := false, narrowed := true }
def MicroTellsUptoSaid : Prop := microTellsUptoRow.holds Try.pinned (OpenSpec.upto microTellsSpec)

/-- 'lamplighterlaw05.MicroParts', WHERE WHAT IT READS IS OF BULK AT MOST 1048576: true; the input reads as it did. -/
def microPartsUptoRow : OpenClaim := { program := "ythibgmndgkhfiaa", sum := "6dec41e073a69b73888ca8db842c2687dfafc0cf7e23b313c5fb8937c874eddb", func := "lamplighter/lamplighterlaw05.MicroParts", spec := "microParts", unfollowed := true, recurses := true, apart := false, narrowed := true }
def MicroPartsUptoSaid : Prop := microPartsUptoRow.holds Try.pinned (OpenSpec.upto microPartsSpec)

/-- 'lamplighterlaw05.MicroKept', WHERE WHAT IT READS IS OF BULK AT MOST 1048576: true; the input reads as it did. -/
def microKeptUptoRow : OpenClaim := { program := "ythibgmndgkhfiaa", sum := "6dec41e073a69b73888ca8db842c2687dfafc0cf7e23b313c5fb8937c874eddb", func := "lamplighter/lamplighterlaw05.MicroKept", spec := "microKept", unfollowed := true, recurses := true, apart := false, narrowed := true }
def MicroKeptUptoSaid : Prop := microKeptUptoRow.holds Try.pinned (OpenSpec.upto microKeptSpec)

/-- 'lamplighterlaw05.MicroSeen', WHERE WHAT IT READS IS OF BULK AT MOST 1048576: true; the input reads as it did. -/
def microSeenUptoRow : OpenClaim := { program := "ythibgmndgkhfiaa", sum := "6dec41e073a69b73888ca8db842c2687dfafc0cf7e23b313c5fb8937c874eddb", func := "lamplighter/lamplighterlaw05.MicroSeen", spec := "microSeen", unfollowed := true, recurses := true, apart := false, narrowed := true }
def MicroSeenUptoSaid : Prop := microSeenUptoRow.holds Try.pinned (OpenSpec.upto microSeenSpec)

/-- 'lamplighterlaw05.MicroApart', WHERE WHAT IT READS IS OF BULK AT MOST 1048576: true; the input reads as it did. -/
def microApartUptoRow : OpenClaim := { program := "ythibgmndgkhfiaa", sum := "6dec41e073a69b73888ca8db842c2687dfafc0cf7e23b313c5fb8937c874eddb", func := "lamplighter/lamplighterlaw05.MicroApart", spec := "microApart", unfollowed := true, recurses := true, apart := false, narrowed := true }
def MicroApartUptoSaid : Prop := microApartUptoRow.holds Try.pinned (OpenSpec.upto microApartSpec)

end Rows
end Go.Proofs.Ythibgmndgkhfiaa
