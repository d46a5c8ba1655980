/- Set over from a lower layer: Numl. -/
import Derived.Test.YtgcdhenbpkcmgaaQuietb
import Derived.Test.YtgcdhenbpkcmgaaNNumq
namespace Go.Proofs.Ytgcdhenbpkcmgaa
/-- A node may begin there; a slot's place; slots that may be; a place of a list. -/
def ndB (b : Int) : Bool := decide (0 ≤ b ∧ b ≤ 4080 ∧ b % 16 = 0)
def plB (b s : Int) : Bool := ndB b && decide (0 ≤ s ∧ s ≤ 12)
def plc (b s : Int) : Int := if plB b s then b + 3 + s else -1
def posB (l : List Int) : Bool := l.all fun x => decide (0 < x)
theorem ndB_out {b : Int} (h : ndB b = true) : 0 ≤ b ∧ b ≤ 4080 ∧ b % 16 = 0 := of_decide_eq_true h
theorem plc_yes {b s : Int} (h : ndB b = true) (h0 : 0 ≤ s) (h1 : s ≤ 12) : plc b s = b + 3 + s := by
  unfold plc plB
  rw [h, decide_eq_true ⟨h0, h1⟩]
  rfl
theorem posB_out {l : List Int} (h : posB l = true) : ∀ x ∈ l, 0 < x := by
  intro x hx
  unfold posB at h
  have := List.all_eq_true.1 h x hx
  simpa using this
end Go.Proofs.Ytgcdhenbpkcmgaa
