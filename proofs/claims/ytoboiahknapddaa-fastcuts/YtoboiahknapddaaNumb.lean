/- What a crash keeps, as plain lists: no program. -/
import Derived.Test.YtoboiahknapddaaNums
namespace Go.Proofs.Ytoboiahknapddaa

/-- Whether one more is kept of a line, and what is left behind it. -/
def crBit (x : Int) : Bool := decide (0 < x)
def crSet (L : List Int) (l : Nat) (x : Int) : List Int := if 0 < x then L.set l (x - 1) else L
def lnN (p : Pd) : Nat := (p.a / 8).toNat
def crStep (L : List Int) (p : Pd) : List Int := crSet L (lnN p) (L.getD (lnN p) 0)
def crL (L : List Int) (ps : List Pd) : List Int := ps.foldl crStep L
def crB (L : List Int) : List Pd → List Bool
  | [] => []
  | p :: ps => crBit (L.getD (lnN p) 0) :: crB (crStep L p) ps
theorem crSet_length (L : List Int) (l : Nat) (x : Int) : (crSet L l x).length = L.length := by unfold crSet; split <;> simp
theorem crL_length (L : List Int) (ps : List Pd) : (crL L ps).length = L.length := by
  induction ps generalizing L with
  | nil => rfl
  | cons p ps ih => exact (ih (crStep L p)).trans (crSet_length _ _ _)
theorem crL_snoc (L : List Int) (ps : List Pd) (p : Pd) : crL L (ps ++ [p]) = crStep (crL L ps) p := by unfold crL; rw [List.foldl_append]; rfl
theorem crB_length (L : List Int) (ps : List Pd) : (crB L ps).length = ps.length := by
  induction ps generalizing L with
  | nil => rfl
  | cons p ps ih => simp [crB, ih]
theorem crB_get (L : List Int) (ps : List Pd) (k : Nat) (p : Pd) (h : ps[k]? = some p) : (crB L ps)[k]? = some (crBit ((crL L (ps.take k)).getD (lnN p) 0)) := by
  induction ps generalizing L k with
  | nil => simp at h
  | cons x ps ih =>
    cases k with
    | zero =>
      have : x = p := by simpa using h
      subst this
      rfl
    | succ k => exact ih (crStep L x) k (by simpa using h)
def Bd (L : List Int) : Prop := ∀ x ∈ L, -9223372036854775808 ≤ x ∧ x < 9223372036854775808
theorem bd_get {L : List Int} (h : Bd L) (l : Nat) : -9223372036854775808 ≤ L.getD l 0 ∧ L.getD l 0 < 9223372036854775808 := by
  rw [List.getD_eq_getElem?_getD]
  cases e : L[l]? with
  | none => simp
  | some x => exact h x (List.mem_of_getElem? e)
theorem bd_step {L : List Int} (h : Bd L) (p : Pd) : Bd (crStep L p) := by
  unfold crStep crSet
  have := bd_get h (lnN p)
  split
  · intro x hx
    rcases List.mem_or_eq_of_mem_set hx with hx | rfl
    · exact h x hx
    · omega
  · exact h
theorem bd_all {L : List Int} (h : Bd L) (ps : List Pd) : Bd (crL L ps) := by
  induction ps generalizing L with
  | nil => exact h
  | cons p ps ih => exact ih (bd_step h p)
/-- What is left to be kept of each line, at the beginning. -/
def leftL (zs : List Int) (n : Nat) : List Int := zs.take n ++ List.replicate (n - (zs.take n).length) 0
theorem leftL_length (zs : List Int) (n : Nat) : (leftL zs n).length = n := by unfold leftL; simp; omega
theorem leftL_get (zs : List Int) (n i : Nat) (h : i < n) : (leftL zs n).getD i 0 = zs.getD i 0 := by
  unfold leftL
  rw [List.getD_eq_getElem?_getD, List.getD_eq_getElem?_getD]
  by_cases hi : i < zs.length
  · rw [List.getElem?_append_left (by simp; omega), List.getElem?_take, if_pos h]
  · rw [List.getElem?_append_right (by simp; omega), List.getElem?_replicate, List.getElem?_eq_none (by omega)]
    split <;> rfl
theorem bd_left {zs : List Int} (h : Bd zs) (n : Nat) : Bd (leftL zs n) := by
  intro x hx
  rcases List.mem_append.1 hx with hx | hx
  · exact h x (List.mem_of_mem_take hx)
  · rw [(List.mem_replicate.1 hx).2]; omega
/-- What a crash leaves. -/
def crM (m : Mm) (keep : List Int) : Mm := kM m (m.pend.zip (crB (leftL keep (m.vol.length / 8)) m.pend))
def crP (m : Mm) (keep : List Int) : List Int := if ok m then (crM m keep).per else []
end Go.Proofs.Ytoboiahknapddaa
