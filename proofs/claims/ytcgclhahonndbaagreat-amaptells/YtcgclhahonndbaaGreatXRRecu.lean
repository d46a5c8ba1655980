/- Set over from a lower layer: Recu. -/
import Derived.Test.YtcgclhahonndbaaGreatRKeywalka
import Derived.Test.YtcgclhahonndbaaGreatRReca
import Derived.Test.YtcgclhahonndbaaGreatXRWalko
import Derived.Test.YtcgclhahonndbaaGreatXRRecr
import Derived.Test.YtcgclhahonndbaaGreatBase
import Derived.Test.YtcgclhahonndbaaGreatXRRect
namespace Go.Proofs.YtcgclhahonndbaaGreat
open Go.RowKit Go.Shelf Classical
set_option linter.unusedVariables false
/-- The record that the document takes out of sixteen words, and whether its texts are there. -/
def rKn (M : List Int) : Nat := ((M[1]?.getD 0) / 32).toNat
def rVn (M : List Int) : Nat := ((M[1]?.getD 0) % 32).toNat
def rKl (M : List Int) : List Int := (M.drop 3).take (Ky.nW (rKn M))
def rVl (M : List Int) : List Int := (M.drop 6).take (Ky.nW (rVn M))
def rX (M : List Int) : Rc :=
  { k := M[0]?.getD 0
    key := Ky.txS (rKl M) (rKn M : Int)
    val := if M[0]?.getD 0 = 1 then Ky.txS (rVl M) (rVn M : Int) else ByteArray.empty
    ch := if M[0]?.getD 0 = 1 then 0 else M[6]?.getD 0 }
def rF (M : List Int) : Int := if M[0]?.getD 0 = 1 then Ky.txE (rVl M) (rVn M : Int) else 0
theorem p3_take (l : List Int) (h : l.length ≤ 3) : (p3 l).take l.length = l := by
  unfold p3
  rw [List.take_append_of_le_length (Nat.le_refl _), List.take_length]
theorem rX_back {x : Rc} (hx : OkR x) : rX (imL x) = x ∧ Ky.txE (rKl (imL x)) (rKn (imL x) : Int) = 0 ∧ rF (imL x) = 0 := by
  have hk := hx.key
  have hv := hx.val
  have e1 : rKn (imL x) = x.key.size := by unfold rKn; rw [imL_1]; omega
  have e2 : rVn (imL x) = x.val.size := by unfold rVn; rw [imL_1]; omega
  have lk := wsl_small x.key hk
  have lv := wsl_small x.val hv
  have e3 : rKl (imL x) = Ky.wsl x.key.data.toList := by
    unfold rKl
    rw [e1, imL_drop3]
    unfold bdL kwL
    have hw : Ky.nW x.key.size = (Ky.wsl x.key.data.toList).length := by rw [Ky.wsl_length, ba_list]
    rw [hw, List.take_append_of_le_length (by rw [p3_length lk]; exact lk), p3_take _ lk]
  have key : Ky.txS (rKl (imL x)) (rKn (imL x) : Int) = x.key := by rw [e3, e1]; exact Ky.back_S x.key
  have kE : Ky.txE (rKl (imL x)) (rKn (imL x) : Int) = 0 := by rw [e3, e1]; exact Ky.back_E x.key
  by_cases h1 : x.k = 1
  · have e4 : rVl (imL x) = Ky.wsl x.val.data.toList := by
      unfold rVl
      rw [e2, imL_drop6 hx]
      unfold vwL
      have hw : Ky.nW x.val.size = (Ky.wsl x.val.data.toList).length := by rw [Ky.wsl_length, ba_list]
      rw [if_neg (by omega), hw, List.take_append_of_le_length (by rw [p3_length lv]; exact lv), p3_take _ lv]
    refine ⟨Rc.ext' rfl key ?_ ?_, kE, ?_⟩
    · show (if (imL x)[0]?.getD 0 = 1 then _ else _) = _
      rw [imL_0, if_pos h1, e4, e2]
      exact Ky.back_S x.val
    · show (if (imL x)[0]?.getD 0 = 1 then _ else _) = _
      rw [imL_0, if_pos h1]
      rcases hx with h | h
      · exact h.2.2.2.2.symm
      · omega
    · unfold rF
      rw [imL_0, if_pos h1, e4, e2]
      exact Ky.back_E x.val
  · have h2 : x.k = 2 := by rcases hx with h | h <;> omega
    refine ⟨Rc.ext' rfl key ?_ ?_, kE, ?_⟩
    · show (if (imL x)[0]?.getD 0 = 1 then _ else _) = _
      rw [imL_0, if_neg h1]
      rcases hx with h | h
      · omega
      · exact (ba_nil h.2.2.1).symm
    · show (if (imL x)[0]?.getD 0 = 1 then _ else _) = _
      rw [imL_0, if_neg h1]
      have e : (imL x)[6]? = ((imL x).drop 6)[0]? := by simp
      rw [e, imL_drop6 hx]
      unfold vwL
      rw [if_pos h2]
      rfl
    · unfold rF
      rw [imL_0, if_neg h1]
/-- The document's way comes to the same. -/
theorem rX_iff (M : List Int) : isR M = true ↔ Ky.txE (rKl M) (rKn M : Int) = 0 ∧ rF M = 0 ∧ rcB (rX M) = true ∧ wLs (rX M) = M := by
  constructor
  · intro h
    obtain ⟨x, hx, rfl⟩ := isR_ex.1 h
    obtain ⟨h1, h2, h3⟩ := rX_back hx
    exact ⟨h2, h3, by rw [h1]; exact rcB_iff.2 hx, by rw [h1]; exact wLs_ok' hx⟩
  · rintro ⟨_, _, h3, h4⟩
    have hx := rcB_iff.1 h3
    rw [wLs_ok' hx] at h4
    exact isR_ex.2 ⟨_, hx, h4⟩
theorem rX_gs {M : List Int} (h : isR M = true) : rX M = gsR M := by
  obtain ⟨x, hx, rfl⟩ := isR_ex.1 h
  rw [(rX_back hx).1, gs_back hx]
/-- Words that have no such sizes are no record's. -/
theorem isR_size {M : List Int} (h : isR M = true) : (0 : Int) ≤ (M[1]?).getD 0 ∧ (M[1]?).getD 0 ≤ (693 : Int) := by
  obtain ⟨x, hx, rfl⟩ := isR_ex.1 h
  have hk := hx.key
  have hv := hx.val
  rw [imL_1]
  omega
end Go.Proofs.YtcgclhahonndbaaGreat
