/- What a crash keeps, as the statement finds it: no program. -/
import Derived.Test.YtmaeobdeddllaaaNumf
namespace Go.Proofs.Ytmaeobdeddllaaa

/-- One line's, one by one: what is there, and how many are left. -/
def inS (t : Nat) (s : List Int × Int) (p : Pd) : List Int × Int := if lnN p = t ∧ 0 < s.2 then (put1 s.1 p, s.2 - 1) else s
def inF (t : Nat) (l : List Int) (x : Int) (ps : List Pd) : List Int × Int := ps.foldl (inS t) (l, x)
theorem inF_snoc (t : Nat) (l : List Int) (x : Int) (ps : List Pd) (p : Pd) : inF t l x (ps ++ [p]) = inS t (inF t l x ps) p := by unfold inF; rw [List.foldl_append]; rfl
theorem inF_fst (t : Nat) (l : List Int) (x : Int) (ps : List Pd) : (inF t l x ps).1 = crG x l (lin t ps) := by
  induction ps generalizing l x with
  | nil => rfl
  | cons p ps ih =>
    show (inF t (inS t (l, x) p).1 (inS t (l, x) p).2 ps).1 = _
    rw [ih]
    by_cases h : lnN p = t
    · have e : lin t (p :: ps) = p :: lin t ps := by unfold lin; rw [List.filter_cons_of_pos (by simpa using h)]
      rw [e, crG_cons]
      by_cases hx : 0 < x
      · have : inS t (l, x) p = (put1 l p, x - 1) := by unfold inS; rw [if_pos ⟨h, hx⟩]
        rw [this, if_pos hx]
      · have : inS t (l, x) p = (l, x) := by unfold inS; rw [if_neg (fun k => hx k.2)]
        rw [this, if_neg hx]
    · have e : lin t (p :: ps) = lin t ps := by unfold lin; rw [List.filter_cons_of_neg (by simpa using h)]
      have : inS t (l, x) p = (l, x) := by unfold inS; rw [if_neg (fun k => h k.1)]
      rw [e, this]
theorem inF_length (t : Nat) (l : List Int) (x : Int) (ps : List Pd) : (inF t l x ps).1.length = l.length := by rw [inF_fst, crG_length]
theorem inF_bd (t : Nat) (l : List Int) (x : Int) (ps : List Pd) (h0 : -9223372036854775808 ≤ x) (h1 : x < 9223372036854775808) : -9223372036854775808 ≤ (inF t l x ps).2 ∧ (inF t l x ps).2 < 9223372036854775808 := by
  induction ps using snoc_ind with
  | h0 => exact ⟨h0, h1⟩
  | h1 ps p ih =>
    rw [inF_snoc]
    unfold inS
    split
    · rename_i h
      have := h.2
      show -9223372036854775808 ≤ (inF t l x ps).2 - 1 ∧ (inF t l x ps).2 - 1 < 9223372036854775808
      omega
    · exact ih
/-- The lines below t are done. -/
def wA (m : Mm) (keep : List Int) : Nat → List Int
  | 0 => m.per
  | t + 1 => crG (keep.getD t 0) (wA m keep t) (lin t m.pend)
theorem wA_length (m : Mm) (keep : List Int) (t : Nat) : (wA m keep t).length = m.per.length := by
  induction t with
  | zero => rfl
  | succ t ih => show (crG _ _ _).length = _; rw [crG_length, ih]
theorem crG_far {x : Int} {l : List Int} {ps : List Pd} {i : Nat} (h : ∀ p ∈ ps, p.a.toNat ≠ i) : (crG x l ps)[i]? = l[i]? := by
  induction ps generalizing x l with
  | nil => rfl
  | cons p ps ih =>
    rw [crG_cons]
    split
    · rw [ih (fun q hq => h q (by simp [hq])), put1_far (h p (by simp))]
    · exact ih (fun q hq => h q (by simp [hq]))
theorem wA_at {m : Mm} (hk : Ok m) (keep : List Int) (t i : Nat) : (wA m keep t)[i]? = if i / 8 < t then (crG (keep.getD (i / 8) 0) m.per (lin (i / 8) m.pend))[i]? else m.per[i]? := by
  induction t with
  | zero => simp [wA]
  | succ t ih =>
    show (crG (keep.getD t 0) (wA m keep t) (lin t m.pend))[i]? = _
    by_cases h : i / 8 = t
    · subst h
      rw [if_pos (Nat.lt_succ_self _)]
      rw [if_neg (Nat.lt_irrefl _)] at ih
      exact crG_congr (wA_length _ _ _) ih _ _
    · rw [crG_far, ih]
      · by_cases h2 : i / 8 < t
        · rw [if_pos h2, if_pos (by omega)]
        · rw [if_neg h2, if_neg (by omega)]
      · intro p hp
        obtain ⟨h1, h2⟩ := List.mem_filter.1 hp
        have h2 : lnN p = t := by simpa using h2
        exact lnN_ne (hk.2.2.2.1 p h1).1 (by omega)
theorem wA_all {m : Mm} (hk : Ok m) (keep : List Int) : wA m keep (m.vol.length / 8) = crP m keep := by
  apply List.ext_getElem?
  intro i
  have h8 := hk.2.2.1
  by_cases hi : i < m.vol.length
  · rw [wA_at hk, if_pos (by omega), crP_at hk keep hi]
  · rw [List.getElem?_eq_none (by rw [wA_length, hk.1]; omega), List.getElem?_eq_none (by rw [crP_length hk]; omega)]
theorem cr_none {m : Mm} (hk : Ok m) : crP m [] = m.per := by
  apply List.ext_getElem?
  intro i
  by_cases hi : i < m.vol.length
  · rw [crP_at hk [] hi, crG_none _ _ _ (by simp)]
  · rw [List.getElem?_eq_none (by rw [crP_length hk]; omega), List.getElem?_eq_none (by rw [hk.1]; omega)]
theorem cr_all {m : Mm} (hk : Ok m) (hp : m.pend.length ≤ 100) : crP m (List.replicate (m.vol.length / 8) 100) = m.vol := by
  apply List.ext_getElem?
  intro i
  have h8 := hk.2.2.1
  by_cases hi : i < m.vol.length
  · have hg : (List.replicate (m.vol.length / 8) (100 : Int)).getD (i / 8) 0 = 100 := by
      rw [List.getD_eq_getElem?_getD, List.getElem?_replicate, if_pos (by omega)]; rfl
    have hl : (lin (i / 8) m.pend).length ≤ m.pend.length := List.length_filter_le _ _
    rw [crP_at hk _ hi, hg, crG_all _ _ _ (by omega), ← putAll_line (fun p hp => (hk.2.2.2.1 p hp).1), hk.2.2.2.2.2]
  · rw [List.getElem?_eq_none (by rw [crP_length hk]; omega), List.getElem?_eq_none (by omega)]
theorem bd_100 (n : Nat) : Bd (List.replicate n 100) := fun x hx => by rw [(List.mem_replicate.1 hx).2]; omega
theorem bd_nil : Bd [] := fun x hx => by cases hx
end Go.Proofs.Ytmaeobdeddllaaa
