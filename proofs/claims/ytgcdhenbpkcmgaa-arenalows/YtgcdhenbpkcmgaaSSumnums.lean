/- Set over from a lower layer: Sumnums. -/
import Derived.Test.YtgcdhenbpkcmgaaQuietb
namespace Go.Proofs.Ytgcdhenbpkcmgaa.Sm
/-- A check, moved once. -/
def mv (x : Nat) : Nat := if x % 2 = 1 then (x / 2) ^^^ 3988292384 else x / 2
def mvs : Nat → Nat → Nat
  | 0, x => x
  | k + 1, x => mv (mvs k x)
theorem mvs_succ (k x : Nat) : mvs (k + 1) x = mv (mvs k x) := rfl
theorem mv_odd {x : Nat} (h : x % 2 = 1) : mv x = (x / 2) ^^^ 3988292384 := if_pos h
theorem mv_even {x : Nat} (h : x % 2 = 0) : mv x = x / 2 := if_neg (by omega)
theorem xor_mod2 (a b : Nat) : (a ^^^ b) % 2 = (a % 2 + b % 2) % 2 := by
  have h := Nat.xor_mod_two_pow (a := a) (b := b) (n := 1)
  simp only [Nat.pow_one] at h
  rw [h]
  rcases Nat.mod_two_eq_zero_or_one a with ha | ha <;> rcases Nat.mod_two_eq_zero_or_one b with hb | hb <;> rw [ha, hb] <;> rfl
theorem xor_div2 (a b : Nat) : (a ^^^ b) / 2 = a / 2 ^^^ b / 2 := by
  have h := Nat.xor_div_two_pow (a := a) (b := b) (n := 1)
  simpa using h
theorem xor_swap (a b c d : Nat) : a ^^^ b ^^^ (c ^^^ d) = a ^^^ c ^^^ (b ^^^ d) := by
  rw [Nat.xor_assoc, ← Nat.xor_assoc b c d, Nat.xor_comm b c, Nat.xor_assoc c b d, ← Nat.xor_assoc]
theorem mv_xor (a b : Nat) : mv (a ^^^ b) = mv a ^^^ mv b := by
  have h2 := xor_mod2 a b
  have hd := xor_div2 a b
  rcases Nat.mod_two_eq_zero_or_one a with ha | ha <;> rcases Nat.mod_two_eq_zero_or_one b with hb | hb <;> rw [ha, hb] at h2
  · rw [mv_even h2, mv_even ha, mv_even hb, hd]
  · rw [mv_odd h2, mv_even ha, mv_odd hb, hd, Nat.xor_assoc]
  · rw [mv_odd h2, mv_odd ha, mv_even hb, hd, Nat.xor_assoc, Nat.xor_assoc, Nat.xor_comm (b / 2)]
  · rw [mv_even h2, mv_odd ha, mv_odd hb, hd, xor_swap, Nat.xor_self, Nat.xor_zero]
theorem mv_lt {x : Nat} (h : x < 4294967296) : mv x < 4294967296 := by
  unfold mv
  split
  · exact Nat.xor_lt_two_pow (n := 32) (by omega) (by omega)
  · omega
theorem mv_double (x : Nat) : mv (2 * x) = x := by rw [mv_even (by omega)]; omega
theorem mvs_xor (k a b : Nat) : mvs k (a ^^^ b) = mvs k a ^^^ mvs k b := by
  induction k with
  | zero => rfl
  | succ k ih => rw [mvs_succ, ih, mv_xor]; rfl
theorem mvs_lt (k : Nat) {x : Nat} (h : x < 4294967296) : mvs k x < 4294967296 := by
  induction k with
  | zero => exact h
  | succ k ih => exact mv_lt ih
theorem mvs_add (j k x : Nat) : mvs (j + k) x = mvs j (mvs k x) := by
  induction j with
  | zero => rw [Nat.zero_add]; rfl
  | succ j ih => rw [show j + 1 + k = j + k + 1 by omega, mvs_succ, ih]; rfl
theorem mvs_in (k x : Nat) : mvs (k + 1) x = mvs k (mv x) := mvs_add k 1 x
theorem mvs_up (k x : Nat) : mvs k (2 ^ k * x) = x := by
  induction k with
  | zero => simp [mvs]
  | succ k ih => rw [mvs_in, show 2 ^ (k + 1) * x = 2 * (2 ^ k * x) by rw [Nat.pow_succ]; simp [Nat.mul_comm, Nat.mul_left_comm], mv_double, ih]
theorem join_xor (k h r : Nat) (hr : r < 2 ^ k) : 2 ^ k * h + r = (2 ^ k * h) ^^^ r := by
  apply Nat.eq_of_testBit_eq
  intro i
  rw [Nat.testBit_xor, Nat.testBit_two_pow_mul_add h hr, Nat.testBit_two_pow_mul]
  by_cases hi : i < k
  · simp [hi, Nat.not_le.2 hi]
  · have : r.testBit i = false := Nat.testBit_lt_two_pow (Nat.lt_of_lt_of_le hr (Nat.pow_le_pow_right (by decide) (by omega)))
    simp [hi, this, Nat.le_of_not_lt hi]
/-- Four moves at once: what the lowest half byte becomes, and the rest, moved down. -/
theorem mvs_four (c : Nat) : c / 16 ^^^ mvs 4 (c % 16) = mvs 4 c := by
  have h : c = (2 ^ 4 * (c / 16)) ^^^ (c % 16) := by
    rw [← join_xor 4 _ _ (by omega)]
    omega
  conv => rhs; rw [h]
  rw [mvs_xor, mvs_up]
/-- The check with one byte more. -/
def byF (c b : Nat) : Nat := mvs 8 (c ^^^ b)
theorem byF_lt {c b : Nat} (hc : c < 4294967296) (hb : b < 256) : byF c b < 4294967296 := mvs_lt 8 (Nat.xor_lt_two_pow (n := 32) hc (by omega))
/-- The byte at place i of a word's eight, the highest first; and the check behind k of them. -/
def bt (n i : Nat) : Nat := n / 2 ^ (56 - 8 * i) % 256
def wdU (c n : Nat) : Nat → Nat
  | 0 => c
  | k + 1 => byF (wdU c n k) (bt n k)
/-- The check with a word more. -/
def wd (c n : Nat) : Nat := wdU c n 8
theorem bt_lt (n i : Nat) : bt n i < 256 := Nat.mod_lt _ (by decide)
theorem wdU_lt {c : Nat} (n k : Nat) (hc : c < 4294967296) : wdU c n k < 4294967296 := by
  induction k with
  | zero => exact hc
  | succ k ih => exact byF_lt ih (bt_lt _ _)
theorem wd_lt {c : Nat} (n : Nat) (hc : c < 4294967296) : wd c n < 4294967296 := wdU_lt n 8 hc
/-- A word as a number of 64 bits. -/
def u64 (z : Int) : Nat := (z % 18446744073709551616).toNat
theorem u64_lt (z : Int) : u64 z < 18446744073709551616 := by unfold u64; omega
/-- The check behind the words of a list, from c on. -/
def goF (c : Nat) : List Int → Nat
  | [] => c
  | z :: l => goF (wd c (u64 z)) l
theorem goF_append (c : Nat) (l m : List Int) : goF c (l ++ m) = goF (goF c l) m := by
  induction l generalizing c with
  | nil => rfl
  | cons z l ih => exact ih _
theorem goF_one (c : Nat) (l : List Int) (z : Int) : goF c (l ++ [z]) = wd (goF c l) (u64 z) := by rw [goF_append]; rfl
theorem goF_lt {c : Nat} (l : List Int) (h : c < 4294967296) : goF c l < 4294967296 := by
  induction l generalizing c with
  | nil => exact h
  | cons z l ih => exact ih (wd_lt _ h)
/-- The check of words. -/
def ofF (l : List Int) : Nat := 4294967295 - goF 4294967295 l
end Go.Proofs.Ytgcdhenbpkcmgaa.Sm
