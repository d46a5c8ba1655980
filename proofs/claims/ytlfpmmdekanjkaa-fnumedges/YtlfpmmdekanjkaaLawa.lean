/- Walks of layer 1's statements: order, mirror, turns. -/
import Derived.Test.YtlfpmmdekanjkaaWalkg
namespace Go.Proofs.Ytlfpmmdekanjkaa
open Go.RowKit

theorem rk_of_neg (b : Nat) (h : isNeg b = true) (hb : b < 18446744073709551616) : rk b = 9223372036854775807 + sv b ∧ sv b ≤ 0 := by
  have hn := of_decide_eq_true h
  have e := sv_neg b hn hb
  unfold rk; rw [if_neg (by omega)]; omega
theorem rk_of_pos (b : Nat) (h : isNeg b = false) : rk b = 9223372036854775808 + sv b ∧ 0 ≤ sv b := by
  have hn := of_decide_eq_false h
  have e := sv_pos b (by omega)
  unfold rk; rw [if_pos (by omega)]; omega
theorem rk_mono (a b : Nat) (ha : a < 18446744073709551616) (hb : b < 18446744073709551616) (h : sv a < sv b) : rk a < rk b := by
  cases na : isNeg a <;> cases nb : isNeg b
  · have := rk_of_pos a na; have := rk_of_pos b nb; omega
  · have := rk_of_pos a na; have := rk_of_neg b nb hb; omega
  · have := rk_of_neg a na ha; have := rk_of_pos b nb; omega
  · have := rk_of_neg a na ha; have := rk_of_neg b nb hb; omega

theorem ord_inv (a b : Nat) (ha : a < 18446744073709551616) (hb : b < 18446744073709551616) :
    FloatKind.f64.format.order a b = none ∨ (FloatKind.f64.format.order a b = some .lt ∧ rk a < rk b) ∨ FloatKind.f64.format.order a b = some .eq ∨ (FloatKind.f64.format.order a b = some .gt ∧ rk b < rk a) := by
  rw [ord a b ha hb]
  by_cases h : (isNan a || isNan b) = true
  · left; rw [if_pos h]
  · right; rw [if_neg h]
    unfold cmp3
    by_cases h1 : sv a < sv b
    · left; rw [if_pos h1]; exact ⟨rfl, rk_mono a b ha hb h1⟩
    · right; rw [if_neg h1]
      by_cases h2 : sv a = sv b
      · left; rw [if_pos h2]
      · right; rw [if_neg h2]; exact ⟨rfl, rk_mono b a hb ha (by omega)⟩

/-- What an order and a place in the order are, together. -/
theorem order_ways (a b : Nat) (ha : a < 18446744073709551616) (hb : b < 18446744073709551616) (hne : a ≠ b) :
    ∃ o l, FloatKind.f64.format.order a b = o ∧ lessB a b = l ∧ lessB b a = !l ∧ (o = some .lt → l = true) ∧ (o = some .gt → l = false) := by
  refine ⟨_, _, rfl, rfl, ?_, ?_, ?_⟩
  · have := rk_inj a b ha hb
    unfold lessB
    by_cases h : rk a < rk b
    · rw [decide_eq_true h, decide_eq_false (by omega)]; rfl
    · rw [decide_eq_false h, decide_eq_true (by omega)]; rfl
  · intro h; rcases ord_inv a b ha hb with h2 | ⟨_, h2⟩ | h2 | ⟨h2, _⟩
    · rw [h] at h2; cases h2
    · exact decide_eq_true h2
    · rw [h] at h2; cases h2
    · rw [h] at h2; cases h2
  · intro h; rcases ord_inv a b ha hb with h2 | ⟨h2, _⟩ | h2 | ⟨_, h2⟩
    · rw [h] at h2; cases h2
    · rw [h] at h2; cases h2
    · rw [h] at h2; cases h2
    · exact decide_eq_false (by omega)
theorem less_irrefl (a : Nat) : lessB a a = false := decide_eq_false (by omega)

set_option maxRecDepth 100000 in
set_option maxHeartbeats 1000000 in
theorem fnumOrder_same (a : Nat) (ha : a < 18446744073709551616) (w : World) :
    Calls Try.prog 4 #[.float .f64 a, .float .f64 a] w fun e w' => e = .returned (.bool true) ∧ Below w.heap.size w w' := by
  have h22 := bits_run
  have l := less_irrefl a
  go_enter Try.func4, Try.ntmps4
  go_wp2_with (first
    | (go_at_call 10; refine (awake_any _).mono ?_; rintro e w' ⟨rfl, hbel⟩)
    | (go_at_call 17; refine (less_any _ _ ha ha _).mono ?_; rintro e w' ⟨rfl, hw⟩; rw [hw]; clear hw w'))
  go_ret
  exact ⟨rfl, by assumption⟩

set_option maxRecDepth 100000 in
set_option maxHeartbeats 2000000 in
theorem fnumOrder_other (a b : Nat) (ha : a < 18446744073709551616) (hb : b < 18446744073709551616) (hne : a ≠ b) (w : World) :
    Calls Try.prog 4 #[.float .f64 a, .float .f64 b] w fun e w' => e = .returned (.bool true) ∧ Below w.heap.size w w' := by
  have h22 := bits_run
  have e1 : ((a : Int) == (b : Int)) = false := beq_eq_false_iff_ne.2 (by omega)
  obtain ⟨o, l, h1, h2, h3, h4, h5⟩ := order_ways a b ha hb hne
  clear hne
  rcases o with _ | o
  all_goals (try cases o)
  all_goals cases l
  all_goals first | (exact absurd (h4 rfl) (by decide)) | (exact absurd (h5 rfl) (by decide)) | (clear h4 h5; simp only [Bool.not_true, Bool.not_false] at h3)
  all_goals
    go_enter Try.func4, Try.ntmps4
    go_wp2_with (first
      | (go_at_call 10; refine (awake_any _).mono ?_; rintro e w' ⟨rfl, hbel⟩)
      | (go_at_call 17; refine (less_any _ _ (by assumption) (by assumption) _).mono ?_; rintro e w' ⟨rfl, hw⟩; rw [hw]; clear hw w'))
    go_ret
    exact ⟨rfl, by assumption⟩

theorem float_lt {b : Nat} (h : (Lit.float .f64 b).wf = true) : b < 18446744073709551616 := by
  simp only [Lit.wf, decide_eq_true_eq] at h
  exact h

theorem walk_FnumOrder (a b : Nat) (w : World) (ha : (Lit.float .f64 a).wf = true) (hb : (Lit.float .f64 b).wf = true) :
    Calls Try.prog 4 #[.float .f64 a, .float .f64 b] w fun e w' => e = .returned (.bool true) ∧ Below w.heap.size w w' := by
  by_cases h : a = b
  · subst h; exact fnumOrder_same a (float_lt ha) w
  · exact fnumOrder_other a b (float_lt ha) (float_lt hb) h w
end Go.Proofs.Ytlfpmmdekanjkaa
