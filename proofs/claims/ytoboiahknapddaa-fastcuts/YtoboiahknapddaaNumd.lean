/- What may be stays so: no program. -/
import Derived.Test.YtoboiahknapddaaNumb
import Derived.Test.YtoboiahknapddaaNumc
namespace Go.Proofs.Ytoboiahknapddaa

theorem putB_out {m : Mm} {i : Int} (h : putB m i = true) : Ok m ∧ 0 ≤ i ∧ i < (m.vol.length : Int) := by
  unfold putB at h
  rw [Bool.and_eq_true] at h
  exact ⟨ok_iff.1 h.1, of_decide_eq_true h.2⟩
theorem ok_put {m : Mm} {i v : Int} (h : putB m i = true) : Ok (putM m i v) := by
  obtain ⟨hk, h0, h1⟩ := putB_out h
  rw [putM_yes h]
  obtain ⟨k1, k2, k3, k4, k5, k6⟩ := hk
  have e : (m.vol.set i.toNat v).length = m.vol.length := List.length_set
  refine ⟨by show m.per.length = (m.vol.set i.toNat v).length; rw [e]; exact k1, by show (m.vol.set i.toNat v).length ≤ _; rw [e]; exact k2, by show (m.vol.set i.toNat v).length % 8 = 0; rw [e]; exact k3, ?_, ?_, ?_⟩
  · show InPl (m.vol.set i.toNat v).length _
    rw [e]
    exact inPl_snoc.2 ⟨k4, h0, h1⟩
  · exact ahead_snoc.2 ⟨k5, fit_bare rfl⟩
  · show putAll m.per (m.pend ++ [_]) = _
    rw [putAll_append, k6]
    rfl
theorem putM_len (m : Mm) (i v : Int) : (putM m i v).vol.length = m.vol.length := by
  cases h : putB m i
  · rw [putM_no h]
  · rw [putM_yes h]; exact List.length_set
theorem putM_pend (m : Mm) (i v : Int) : (putM m i v).pend.length ≤ m.pend.length + 1 := by
  cases h : putB m i
  · rw [putM_no h]; omega
  · rw [putM_yes h]; simp
theorem putB_range {m : Mm} {i : Int} (h : ¬ (0 ≤ i ∧ i < (m.vol.length : Int))) : putB m i = false := putB_no fun k => h k.2
theorem turn_codes (m : Mm) (i j x y : Int) :
    (putE m i = 40 ∧ putE (putM m i x) j = 40 ∧ putE m j = 40 ∧ putE (putM m j y) i = 40) ∨ (putE m i = 40 ∧ putE (putM m i x) j = 0 ∧ putE m j = 0 ∧ putE (putM m j y) i = 40) ∨
    (putE m i = 0 ∧ putE (putM m i x) j = 40 ∧ putE m j = 40 ∧ putE (putM m j y) i = 0) ∨ (putB m i = true ∧ putB m j = true ∧ putE m i = 0 ∧ putE (putM m i x) j = 0 ∧ putE m j = 0 ∧ putE (putM m j y) i = 0) := by
  cases hi : putB m i <;> cases hj : putB m j
  · left
    have e1 : putM m i x = m := putM_no hi
    have e2 : putM m j y = m := putM_no hj
    rw [e1, e2]
    exact ⟨putE_no hi, putE_no hj, putE_no hj, putE_no hi⟩
  · right; left
    have e1 : putM m i x = m := putM_no hi
    rw [e1]
    refine ⟨putE_no hi, putE_yes hj, putE_yes hj, putE_no (putB_range ?_)⟩
    rw [putM_len]
    intro h
    have := putB_yes (ok_iff.2 (putB_out hj).1) h.1 h.2
    rw [hi] at this
    cases this
  · right; right; left
    have e2 : putM m j y = m := putM_no hj
    rw [e2]
    refine ⟨putE_yes hi, putE_no (putB_range ?_), putE_no hj, putE_yes hi⟩
    rw [putM_len]
    intro h
    have := putB_yes (ok_iff.2 (putB_out hi).1) h.1 h.2
    rw [hj] at this
    cases this
  · right; right; right
    refine ⟨rfl, rfl, putE_yes hi, putE_yes (putB_yes (ok_iff.2 (ok_put hi)) (putB_out hj).2.1 ?_), putE_yes hj, putE_yes (putB_yes (ok_iff.2 (ok_put hj)) (putB_out hi).2.1 ?_)⟩
    · rw [putM_len]; exact (putB_out hj).2.2
    · rw [putM_len]; exact (putB_out hi).2.2
/-- Two stores, both good. -/
theorem put_two {m : Mm} {i j x y : Int} (hi : putB m i = true) (hj : putB m j = true) : putM (putM m i x) j y = ⟨(m.vol.set i.toNat x).set j.toNat y, m.per, m.pend ++ [⟨i, x, false⟩] ++ [⟨j, y, false⟩]⟩ := by
  have : putB (putM m i x) j = true := putB_yes (ok_iff.2 (ok_put hi)) (putB_out hj).2.1 (by rw [putM_len]; exact (putB_out hj).2.2)
  rw [putM_yes this, putM_yes hi]
end Go.Proofs.Ytoboiahknapddaa
