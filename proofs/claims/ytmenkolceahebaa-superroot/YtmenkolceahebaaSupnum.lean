/- Layer 8 as plain data: first blocks, what words tell, the steps to another root. -/
import Derived.Test.YtmenkolceahebaaSumwalkd
import Derived.Test.YtmenkolceahebaaNuml
namespace Go.Proofs.Ytmenkolceahebaa
open Go.RowKit
set_option linter.unusedVariables false

/-- There is an arena of so many blocks, with that root. -/
def mbB (n r : Int) : Bool := decide (2 ≤ n ∧ n ≤ 256 ∧ 1 ≤ r ∧ r < n)
theorem mbB_iff {n r : Int} : mbB n r = true ↔ 2 ≤ n ∧ n ≤ 256 ∧ 1 ≤ r ∧ r < n := by simp [mbB]
theorem mbB_no {n r : Int} (h : ¬ (2 ≤ n ∧ n ≤ 256 ∧ 1 ≤ r ∧ r < n)) : mbB n r = false := decide_eq_false h
theorem mbB_yes {n r : Int} (h : 2 ≤ n ∧ n ≤ 256 ∧ 1 ≤ r ∧ r < n) : mbB n r = true := decide_eq_true h
/-- The check of a first block. -/
def ckN (n : Int) : Int := ((Sm.ofF [7015, n] : Nat) : Int)
theorem ckN_bd (n : Int) : 0 ≤ ckN n ∧ ckN n < 4294967296 := by
  have := Sm.ofF_lt [7015, n]
  unfold ckN
  omega
/-- A first block with a check. -/
def hdQ (n q r : Int) : List Int := [7015, n, q, r, 0, 0, 0, 0, 0, 0, 0, 0, 0, 0, 0, 0]
def hdW (n r : Int) : List Int := hdQ n (ckN n) r
theorem ckN_eq (n : Int) : ((Sm.ofF [7015, n] : Nat) : Int) = ckN n := by rw [ckN]
theorem hdW_eq (n r : Int) : hdW n r = hdQ n (ckN n) r := by rw [hdW]
theorem hdW_length (n r : Int) : (hdW n r).length = 16 := rfl
def wdL (n r : Int) : List Int := if mbB n r then hdW n r else []
def wdE (n r : Int) : Int := if mbB n r then 0 else 1
theorem wd_yes {n r : Int} (h : mbB n r = true) : wdL n r = hdW n r ∧ wdE n r = 0 := by simp [wdL, wdE, h]
theorem wd_no {n r : Int} (h : mbB n r = false) : wdL n r = [] ∧ wdE n r = 1 := by simp [wdL, wdE, h]
/-- The steps to another root. -/
def rtL (n r : Int) : List Mi := if mbB n r then [⟨1, 3, r⟩, ⟨2, 0, 0⟩] else []
theorem rt_yes {n r : Int} (h : mbB n r = true) : rtL n r = [⟨1, 3, r⟩, ⟨2, 0, 0⟩] := by simp [rtL, h]
theorem rt_no {n r : Int} (h : mbB n r = false) : rtL n r = [] := by simp [rtL, h]
/-- What words tell. -/
def nbI (zs : List Int) : Int := ((zs.length / 16 : Nat) : Int)
def rtI (zs : List Int) : Int := zs.getD 3 0
def rdB (zs : List Int) : Bool := mbB (nbI zs) (rtI zs) && decide (zs.take 16 = hdW (nbI zs) (rtI zs))
def rdN (zs : List Int) : Int := if rdB zs then nbI zs else 0
def rdR (zs : List Int) : Int := if rdB zs then rtI zs else 0
def rdE (zs : List Int) : Int := if rdB zs then 0 else 80
theorem rd_yes {zs : List Int} (h : rdB zs = true) : rdN zs = nbI zs ∧ rdR zs = rtI zs ∧ rdE zs = 0 := by simp [rdN, rdR, rdE, h]
theorem rd_no {zs : List Int} (h : rdB zs = false) : rdN zs = 0 ∧ rdR zs = 0 ∧ rdE zs = 80 := by simp [rdN, rdR, rdE, h]
theorem rdB_short {zs : List Int} (h : zs.length < 32) : rdB zs = false := by
  unfold rdB nbI
  rw [mbB_no (by omega), Bool.false_and]
/-- A first block with other words behind it. -/
theorem hd_take (n r : Int) (ys : List Int) : (hdW n r ++ ys).take 16 = hdW n r := rfl
theorem hd_root (n r : Int) (ys : List Int) : rtI (hdW n r ++ ys) = r := rfl
theorem rd_back {n r : Int} {ys : List Int} (h : mbB n r = true) (hn : n = ((1 + ys.length / 16 : Nat) : Int)) : rdB (hdW n r ++ ys) = true ∧ nbI (hdW n r ++ ys) = n := by
  have hb : nbI (hdW n r ++ ys) = n := by
    unfold nbI
    rw [List.length_append, hdW_length, hn]
    omega
  refine ⟨?_, hb⟩
  unfold rdB
  rw [hb, hd_root, h, hd_take, decide_eq_true rfl]
  rfl
end Go.Proofs.Ytmenkolceahebaa
