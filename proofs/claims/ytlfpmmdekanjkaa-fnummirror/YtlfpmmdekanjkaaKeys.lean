/- Plain mathematics of layer 1's keys: eight bytes of a number, and the number of eight bytes. -/
import Derived.Test.YtlfpmmdekanjkaaWalkg
namespace Go.Proofs.Ytlfpmmdekanjkaa
open Go.RowKit

theorem byte_nat (x : Int) : ((UInt8.ofNat (x % 256).toNat).toNat : Int) = x % 256 := by
  rw [UInt8.toNat_ofNat']
  omega

theorem keyB_list (n : Int) : (keyB n).data.toList = (kb n).map fun x => UInt8.ofNat x.toNat := by
  unfold keyB strOfNums; simp
theorem keyB_size (n : Int) : (keyB n).size = 8 := by
  unfold keyB strOfNums kb; rfl
theorem acc_keyB (n : Int) (h0 : 0 ≤ n) (h : n < 18446744073709551616) : acc (keyB n).data.toList = n := by
  rw [keyB_list]
  unfold kb acc
  simp only [List.map_cons, List.map_nil, List.foldl_cons, List.foldl_nil, byte_nat]
  omega
theorem backN_keyB (n : Int) (h0 : 0 ≤ n) (h : n < 18446744073709551616) : backN (keyB n) = bk n := by
  unfold backN; rw [if_pos (keyB_size n), acc_keyB n h0 h]
theorem backB_keyB (n : Int) : backB (keyB n) = true := decide_eq_true (keyB_size n)

theorem acc_cons (c : UInt8) (l : List UInt8) : acc (c :: l) = (c.toNat : Int) * 256 ^ l.length + acc l := by
  have key : ∀ (l : List UInt8) (x : Int), l.foldl (fun r c => r * 256 + (c.toNat : Int)) x = x * 256 ^ l.length + acc l := by
    intro l
    induction l with
    | nil => intro x; simp [acc]
    | cons d l ih =>
      intro x
      have e : acc (d :: l) = l.foldl (fun r c => r * 256 + (c.toNat : Int)) (0 * 256 + (d.toNat : Int)) := rfl
      rw [List.foldl_cons, ih, e, ih, List.length_cons, Int.pow_succ]
      generalize (256 : Int) ^ l.length = p
      rw [Int.add_mul, Int.mul_assoc, Int.mul_comm 256 p, Int.zero_mul, Int.zero_add]
      generalize x * (p * 256) = y
      omega
  have e : acc (c :: l) = l.foldl (fun r c => r * 256 + (c.toNat : Int)) (0 * 256 + (c.toNat : Int)) := rfl
  rw [e, key]; simp

theorem bytesLess_acc : ∀ (l m : List UInt8), l.length = m.length → Op.bytesLess l m = decide (acc l < acc m) := by
  intro l
  induction l with
  | nil => intro m h; cases m with
    | nil => rfl
    | cons => simp at h
  | cons c l ih =>
    intro m h
    cases m with
    | nil => simp at h
    | cons d m =>
      have hl : l.length = m.length := by simpa using h
      have := ih m hl
      have b1 := acc_bd l
      have b2 := acc_bd m
      rw [acc_cons, acc_cons, ← hl]
      rw [← hl] at b2
      generalize (256 : Int) ^ l.length = p at *
      have e1 : Op.bytesLess (c :: l) (d :: m) = (decide (c < d) || (c == d && Op.bytesLess l m)) := rfl
      rw [e1, this]
      by_cases h1 : c < d
      · have h2 : (c.toNat : Int) + 1 ≤ (d.toNat : Int) := by have := UInt8.lt_iff_toNat_lt.1 h1; omega
        have h3 := Int.mul_le_mul_of_nonneg_right h2 (show 0 ≤ p by omega)
        rw [Int.add_mul, Int.one_mul] at h3
        have e2 : decide (c < d) = true := decide_eq_true h1
        rw [e2, Bool.true_or]
        exact (decide_eq_true (by omega)).symm
      · have e2 : decide (c < d) = false := decide_eq_false h1
        rw [e2, Bool.false_or]
        by_cases h2 : c = d
        · subst h2
          rw [show (c == c) = true from by simp, Bool.true_and]
          generalize (c.toNat : Int) * p = y
          by_cases h3 : acc l < acc m
          · rw [decide_eq_true h3, decide_eq_true (by omega)]
          · rw [decide_eq_false h3, decide_eq_false (by omega)]
        · have e3 : (c == d) = false := by simpa using h2
          rw [e3, Bool.false_and]
          have h4 : (d.toNat : Int) + 1 ≤ (c.toNat : Int) := by
            have h5 : ¬ c.toNat < d.toNat := fun h => h1 (UInt8.lt_iff_toNat_lt.2 h)
            have h6 : c.toNat ≠ d.toNat := fun h => h2 (UInt8.toNat_inj.1 h)
            omega
          have h3 := Int.mul_le_mul_of_nonneg_right h4 (show 0 ≤ p by omega)
          rw [Int.add_mul, Int.one_mul] at h3
          exact (decide_eq_false (by omega)).symm

theorem keyB_less (m n : Int) (h0 : 0 ≤ m) (h : m < 18446744073709551616) (h2 : 0 ≤ n) (h3 : n < 18446744073709551616) :
    Op.bytesLess (keyB m).data.toList (keyB n).data.toList = decide (m < n) := by
  rw [bytesLess_acc _ _ (by rw [Array.length_toList, Array.length_toList]; show (keyB m).size = (keyB n).size; rw [keyB_size, keyB_size]), acc_keyB m h0 h, acc_keyB n h2 h3]
end Go.Proofs.Ytlfpmmdekanjkaa
