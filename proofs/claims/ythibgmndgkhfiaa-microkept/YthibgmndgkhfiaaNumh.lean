/- What a crash keeps, as the document counts it: no program. -/
import Derived.Test.YthibgmndgkhfiaaNumb
namespace Go.Proofs.Ythibgmndgkhfiaa

/-- How many of them are of line l. -/
def ctL (l : Nat) (ps : List Pd) : Nat := (ps.filter fun p => decide (p.a / 8 = (l : Int))).length
theorem ctL_yes (l : Nat) (ps : List Pd) (p : Pd) (h : p.a / 8 = (l : Int)) : ctL l (ps ++ [p]) = ctL l ps + 1 := by
  unfold ctL
  rw [List.filter_append, List.length_append]
  simp [h]
theorem ctL_no (l : Nat) (ps : List Pd) (p : Pd) (h : ¬ p.a / 8 = (l : Int)) : ctL l (ps ++ [p]) = ctL l ps := by
  unfold ctL
  rw [List.filter_append, List.length_append]
  simp [h]
theorem ctL_le (l : Nat) (ps : List Pd) : ctL l ps ≤ ps.length := List.length_filter_le _ _
/-- What is left of x behind c. -/
def dn (x : Int) (c : Nat) : Int := if (c : Int) < x then x - c else if 0 < x then 0 else x
theorem dn_step (x : Int) (c : Nat) : dn x (c + 1) = if 0 < dn x c then dn x c - 1 else dn x c := by
  unfold dn
  split <;> split <;> split <;> (try split) <;> omega
theorem dn_bit (x : Int) (c : Nat) : crBit (dn x c) = decide ((c : Int) < x) := by
  unfold crBit dn
  split
  · rename_i h
    rw [decide_eq_true h]
    exact decide_eq_true (by omega)
  · rename_i h
    rw [decide_eq_false h]
    refine decide_eq_false ?_
    split <;> omega
theorem crStepH_same (L : List Int) (p : Pd) (l : Nat) (h : lnN p = l) (hl : l < L.length) : (crStep L p).getD l 0 = if 0 < L.getD l 0 then L.getD l 0 - 1 else L.getD l 0 := by
  subst h
  unfold crStep crSet
  split
  · rw [List.getD_eq_getElem?_getD, List.getElem?_set_self hl]; rfl
  · rfl
theorem crStepH_other (L : List Int) (p : Pd) (l : Nat) (h : lnN p ≠ l) : (crStep L p).getD l 0 = L.getD l 0 := by
  unfold crStep crSet
  split
  · rw [List.getD_eq_getElem?_getD, List.getElem?_set_ne h, ← List.getD_eq_getElem?_getD]
  · rfl
theorem cr_left (L : List Int) (l : Nat) (hl : l < L.length) (ps : List Pd) (hI : ∀ p ∈ ps, 0 ≤ p.a) : (crL L ps).getD l 0 = dn (L.getD l 0) (ctL l ps) := by
  induction ps using snoc_ind with
  | h0 =>
    show L.getD l 0 = dn _ 0
    unfold dn
    split
    · simp
    · split
      · omega
      · rfl
  | h1 ps p ih =>
    have ih := ih fun q hq => hI q (by simp [hq])
    have hp := hI p (by simp)
    rw [crL_snoc]
    by_cases h : p.a / 8 = (l : Int)
    · rw [crStepH_same _ p l (by unfold lnN; omega) (by rw [crL_length]; exact hl), ih, ctL_yes l ps p h, dn_step]
    · rw [crStepH_other _ p l (by unfold lnN; omega), ih, ctL_no l ps p h]
theorem cr_get {keep : List Int} {ps : List Pd} {n8 k l : Nat} {p : Pd} (hI : ∀ p ∈ ps, 0 ≤ p.a) (hp : ps[k]? = some p) (hl : p.a / 8 = (l : Int)) (hn : l < n8) : (crB (leftL keep n8) ps)[k]? = some (decide ((ctL l (ps.take k) : Int) < keep.getD l 0)) := by
  rw [crB_get _ _ _ _ hp, show lnN p = l by unfold lnN; omega, cr_left _ _ (by rw [leftL_length]; exact hn) _ (fun q hq => hI q (List.mem_of_mem_take hq)), dn_bit, leftL_get _ _ _ hn]
end Go.Proofs.Ythibgmndgkhfiaa
