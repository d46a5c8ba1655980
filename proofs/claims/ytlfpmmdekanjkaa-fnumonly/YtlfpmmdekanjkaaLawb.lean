/- Walks of layer 1's statements: back, turns, mirror. -/
import Derived.Test.YtlfpmmdekanjkaaLawa
import Derived.Test.YtlfpmmdekanjkaaKeys
namespace Go.Proofs.Ytlfpmmdekanjkaa
open Go.RowKit

theorem bstep {w a b : World} (h : Below w.heap.size w a) (k : Below a.heap.size a b) : Below w.heap.size w b := h.trans (k.mono h.size)

theorem keyB_lessL (m n : Int) (h0 : 0 ≤ m) (h : m < 18446744073709551616) (h2 : 0 ≤ n) (h3 : n < 18446744073709551616) :
    Op.bytesLess (keyB m).toList (keyB n).toList = decide (m < n) := by
  rw [ByteArray.toList_eq, ByteArray.toList_eq, keyB_less m n h0 h h2 h3]

set_option maxRecDepth 100000 in
set_option maxHeartbeats 2000000 in
theorem walk_FnumBack (a b : Nat) (w : World) (wa : (Lit.float .f64 a).wf = true) (wb : (Lit.float .f64 b).wf = true) :
    Calls Try.prog 5 #[.float .f64 a, .float .f64 b] w fun e w' => e = .returned (.bool true) ∧ Below w.heap.size w w' := by
  have ha := float_lt wa
  have hb := float_lt wb
  clear wa wb
  have h22 := bits_run
  have ra := rk_bd a ha
  have rb := rk_bd b hb
  have k1 : backN (keyB (rk a)) = a := by rw [backN_keyB _ ra.1 ra.2, bk_rk a ha]
  have k2 := backB_keyB (rk a)
  have k3 := keyB_size (rk a)
  have k4 : Op.bytesLess (keyB (rk a)).toList (keyB (rk b)).toList = lessB a b := keyB_lessL _ _ ra.1 ra.2 rb.1 rb.2
  clear ra rb
  go_enter Try.func5, Try.ntmps5
  go_wp2_with (first
    | (go_at_call 10; refine (awake_any _).mono ?_; rintro e w1 ⟨rfl, hb1⟩)
    | (go_at_call 11; refine (back_any _ _).mono ?_; rintro e w' ⟨rfl, hw⟩; rw [hw]; clear hw w')
    | (go_at_call 17; refine (less_any _ _ ha hb _).mono ?_; rintro e w' ⟨rfl, hw⟩; rw [hw]; clear hw w')
    | (go_at_call 19; refine (key_any _ (by assumption) _).mono ?_; rintro e w1 ⟨rfl, hb1⟩))
  go_ret
  exact ⟨rfl, by repeat (first | assumption | refine bstep ?_ (by assumption))⟩

/-- A number's bits with the sign turned. -/
def flip (a : Nat) : Nat := if a < 9223372036854775808 then a + 9223372036854775808 else a - 9223372036854775808
theorem flip_lt (a : Nat) (h : a < 18446744073709551616) : flip a < 18446744073709551616 := by unfold flip; split <;> omega
theorem xor_flip (a : Nat) (h : a < 18446744073709551616) : a ^^^ 9223372036854775808 = flip a := by
  unfold flip
  by_cases hl : a < 9223372036854775808
  · rw [if_pos hl]
    have e : a ^^^ 2 ^ 63 = a + 2 ^ 63 := by
      have := Nat.two_pow_add_eq_or_of_lt (i := 63) (b := a) hl 1
      have hx : a ^^^ 2 ^ 63 = 2 ^ 63 * 1 ||| a := by
        apply Nat.eq_of_testBit_eq
        intro i
        have h1 : a.testBit 63 = false := Nat.testBit_lt_two_pow hl
        rw [Nat.testBit_xor, Nat.testBit_or, Nat.mul_one, Nat.testBit_two_pow]
        by_cases hi : 63 = i
        · subst hi; simp [h1]
        · simp [hi]
      rw [hx, ← this]; omega
    exact e
  · rw [if_neg hl]
    have h2 : a - 9223372036854775808 < 2 ^ 63 := by omega
    have e : a = 2 ^ 63 * 1 ||| (a - 9223372036854775808) := by
      have := Nat.two_pow_add_eq_or_of_lt (i := 63) (b := a - 9223372036854775808) h2 1
      rw [← this]; omega
    have hx : a ^^^ 2 ^ 63 = a - 9223372036854775808 := by
      apply Nat.eq_of_testBit_eq
      intro i
      have h1 : (a - 9223372036854775808).testBit 63 = false := Nat.testBit_lt_two_pow h2
      have h3 : a.testBit i = (decide (63 = i) || (a - 9223372036854775808).testBit i) := by
        have h4 := congrArg (fun x => Nat.testBit x i) e
        simp only [Nat.mul_one, Nat.testBit_or, Nat.testBit_two_pow] at h4
        exact h4
      rw [Nat.testBit_xor, Nat.testBit_two_pow, h3]
      by_cases hi : 63 = i
      · subst hi; simp [h1]
      · simp [hi]
    exact hx

theorem xor_u64 (a : Nat) (h : a < 18446744073709551616) : bits .xor .u64 (a : Int) 9223372036854775808 = (flip a : Nat) := by
  have := u64_xor_nat a 9223372036854775808 h (by omega)
  rw [xor_flip a h] at this
  exact this
end Go.Proofs.Ytlfpmmdekanjkaa
