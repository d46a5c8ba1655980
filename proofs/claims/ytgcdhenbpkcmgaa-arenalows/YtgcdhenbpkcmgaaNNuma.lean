/- Set over from a lower layer: Numa. -/
import Derived.Test.YtgcdhenbpkcmgaaQuietb
namespace Go.Proofs.Ytgcdhenbpkcmgaa
/-- What is pending: where, what, and whether it is flushed. -/
structure Pd where
  a : Int
  v : Int
  f : Bool
/-- A memory. -/
structure Mm where
  vol : List Int
  per : List Int
  pend : List Pd
/-- One is put into its place; all of them, one behind the other. -/
def put1 (l : List Int) (p : Pd) : List Int := l.set p.a.toNat p.v
def putAll (l : List Int) (ps : List Pd) : List Int := ps.foldl put1 l
/-- Each is at one of n places. -/
def InPl (n : Nat) (ps : List Pd) : Prop := ∀ p ∈ ps, 0 ≤ p.a ∧ p.a < (n : Int)
/-- Of one line what is flushed stands ahead of what is not. -/
def Fit (p q : Pd) : Prop := q.f = true → p.a / 8 = q.a / 8 → p.f = true
def Fit.dec (p q : Pd) : Decidable (Fit p q) := by unfold Fit; exact inferInstance
def Ahead (ps : List Pd) : Prop := ps.Pairwise Fit
def InPl.dec (n : Nat) (ps : List Pd) : Decidable (InPl n ps) := by unfold InPl; exact inferInstance
def Ahead.dec (ps : List Pd) : Decidable (Ahead ps) := by unfold Ahead; have : DecidableRel Fit := Fit.dec; exact inferInstance
/-- A memory may be. -/
def Ok (m : Mm) : Prop := m.per.length = m.vol.length ∧ m.vol.length ≤ 4096 ∧ m.vol.length % 8 = 0 ∧ InPl m.vol.length m.pend ∧ Ahead m.pend ∧ putAll m.per m.pend = m.vol
def Ok.dec (m : Mm) : Decidable (Ok m) := by unfold Ok; have := InPl.dec m.vol.length m.pend; have := Ahead.dec m.pend; exact inferInstance
def ok (m : Mm) : Bool := @decide (Ok m) (Ok.dec m)
theorem take_next {α : Type} {l : List α} {k : Nat} {p : α} (h : l[k]? = some p) : l.take (k + 1) = l.take k ++ [p] := by
  rw [List.take_add_one, h]; rfl
end Go.Proofs.Ytgcdhenbpkcmgaa
namespace Go.Proofs.Ytgcdhenbpkcmgaa
end Go.Proofs.Ytgcdhenbpkcmgaa
namespace Go.Proofs.Ytgcdhenbpkcmgaa
end Go.Proofs.Ytgcdhenbpkcmgaa
namespace Go.Proofs.Ytgcdhenbpkcmgaa
end Go.Proofs.Ytgcdhenbpkcmgaa
