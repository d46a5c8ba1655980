/- What is pending, some of it flushed: no program. -/
import Derived.Test.YtoboiahknapddaaNums
namespace Go.Proofs.Ytoboiahknapddaa

def flPre (ps : List Pd) (pre : List (Fin ps.length)) : List Pd := ps.mapIdx fun j p => if pre.any (fun x => x.1 == j) then ⟨p.a, p.v, true⟩ else p
theorem flPre_length (ps : List Pd) (pre : List (Fin ps.length)) : (flPre ps pre).length = ps.length := by simp [flPre]
theorem flPre_nil (ps : List Pd) : flPre ps [] = ps := by
  apply List.ext_getElem?
  intro j
  simp [flPre]
theorem flPre_get (ps : List Pd) (pre : List (Fin ps.length)) (j : Nat) : (flPre ps pre)[j]? = (ps[j]?).map fun p => if pre.any (fun x => x.1 == j) then ⟨p.a, p.v, true⟩ else p := by simp [flPre]
theorem flPre_at (ps : List Pd) (pre : List (Fin ps.length)) (x : Fin ps.length) : ∃ p, (flPre ps pre)[x.1]? = some p ∧ (flPre ps pre).set x.1 ⟨p.a, p.v, true⟩ = flPre ps (pre ++ [x]) := by
  have hx : ps[x.1]? = some (ps[x.1]'x.2) := List.getElem?_eq_getElem x.2
  have hg := flPre_get ps pre x.1
  rw [hx] at hg
  refine ⟨_, hg, ?_⟩
  apply List.ext_getElem?
  intro j
  rw [flPre_get]
  by_cases h : x.1 = j
  · subst h
    rw [List.getElem?_set_self (by rw [flPre_length]; exact x.2), hx]
    simp only [List.any_append, List.any_cons, List.any_nil, Bool.or_false, beq_self_eq_true, Bool.or_true, if_true, Option.map_some]
    split <;> rfl
  · rw [List.getElem?_set_ne h, flPre_get]
    have : (x.1 == j) = false := by simpa using h
    simp [List.any_append, this]
theorem flPre_all (ps : List Pd) (xs : List (Fin ps.length)) (line : Int) (h : ∀ j : Fin ps.length, j ∈ xs ↔ (ps[j.1]'j.2).a / 8 = line) : flPre ps xs = ps.map (fluP line) := by
  apply List.ext_getElem?
  intro j
  rw [flPre_get, List.getElem?_map]
  by_cases hj : j < ps.length
  · rw [List.getElem?_eq_getElem hj]
    simp only [Option.map_some]
    have hm := h ⟨j, hj⟩
    by_cases hl : (ps[j]'hj).a / 8 = line
    · have : xs.any (fun x => x.1 == j) = true := by
        rw [List.any_eq_true]
        exact ⟨⟨j, hj⟩, hm.2 hl, by simp⟩
      rw [this]
      simp [fluP, hl]
    · have : xs.any (fun x => x.1 == j) = false := by
        rw [List.any_eq_false]
        intro x hx
        simp only [beq_iff_eq]
        intro e
        subst e
        exact hl (hm.1 hx)
      rw [this]
      simp [fluP, hl]
  · rw [List.getElem?_eq_none (by omega)]
    rfl
end Go.Proofs.Ytoboiahknapddaa
