/- Set over from a lower layer: Supnum. -/
import Derived.Test.YtgcdhenbpkcmgaaQuietb
import Derived.Test.YtgcdhenbpkcmgaaSSumwalkd
namespace Go.Proofs.Ytgcdhenbpkcmgaa
open Go.RowKit
set_option linter.unusedVariables false
/-- There is an arena of so many blocks, with that root. -/
def mbB (n r : Int) : Bool := decide (2 ≤ n ∧ n ≤ 256 ∧ 1 ≤ r ∧ r < n)
theorem mbB_iff {n r : Int} : mbB n r = true ↔ 2 ≤ n ∧ n ≤ 256 ∧ 1 ≤ r ∧ r < n := by simp [mbB]
theorem mbB_no {n r : Int} (h : ¬ (2 ≤ n ∧ n ≤ 256 ∧ 1 ≤ r ∧ r < n)) : mbB n r = false := decide_eq_false h
theorem mbB_yes {n r : Int} (h : 2 ≤ n ∧ n ≤ 256 ∧ 1 ≤ r ∧ r < n) : mbB n r = true := decide_eq_true h
/-- The check of a first block. -/
def ckN (n : Int) : Int := ((Sm.ofF [7015, n] : Nat) : Int)
/-- A first block with a check. -/
def hdQ (n q r : Int) : List Int := [7015, n, q, r, 0, 0, 0, 0, 0, 0, 0, 0, 0, 0, 0, 0]
def hdW (n r : Int) : List Int := hdQ n (ckN n) r
theorem hdW_eq (n r : Int) : hdW n r = hdQ n (ckN n) r := by rw [hdW]
def wdL (n r : Int) : List Int := if mbB n r then hdW n r else []
def wdE (n r : Int) : Int := if mbB n r then 0 else 1
theorem wd_yes {n r : Int} (h : mbB n r = true) : wdL n r = hdW n r ∧ wdE n r = 0 := by simp [wdL, wdE, h]
theorem wd_no {n r : Int} (h : mbB n r = false) : wdL n r = [] ∧ wdE n r = 1 := by simp [wdL, wdE, h]
/-- What words tell. -/
def nbI (zs : List Int) : Int := ((zs.length / 16 : Nat) : Int)
def rtI (zs : List Int) : Int := zs.getD 3 0
def rdB (zs : List Int) : Bool := mbB (nbI zs) (rtI zs) && decide (zs.take 16 = hdW (nbI zs) (rtI zs))
def rdN (zs : List Int) : Int := if rdB zs then nbI zs else 0
def rdR (zs : List Int) : Int := if rdB zs then rtI zs else 0
def rdE (zs : List Int) : Int := if rdB zs then 0 else 80
theorem rd_yes {zs : List Int} (h : rdB zs = true) : rdN zs = nbI zs ∧ rdR zs = rtI zs ∧ rdE zs = 0 := by simp [rdN, rdR, rdE, h]
theorem rd_no {zs : List Int} (h : rdB zs = false) : rdN zs = 0 ∧ rdR zs = 0 ∧ rdE zs = 80 := by simp [rdN, rdR, rdE, h]
theorem rdB_short {zs : List Int} (h : zs.length < 32) : rdB zs = false := by
  unfold rdB nbI
  rw [mbB_no (by omega), Bool.false_and]
end Go.Proofs.Ytgcdhenbpkcmgaa
