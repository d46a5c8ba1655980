/- Plain mathematics of layer 1: how two doubles stand to each other, told by their bits alone; ranks; classes. It imports nothing of the program. -/
import GoSem.Core.Float
namespace Go.Proofs.Ytlfpmmdekanjkaa

/-- The bits below the sign. -/
def rung (b : Nat) : Nat := b % 9223372036854775808
def isNeg (b : Nat) : Bool := decide (9223372036854775808 ≤ b)
def isNan (b : Nat) : Bool := decide (9218868437227405312 < rung b)
/-- The rung with its sign. -/
def sv (b : Nat) : Int := if isNeg b then -(rung b : Int) else (rung b : Int)

theorem sw_eq : Ieee.double.signWeight = 9223372036854775808 := by rfl
theorem bin_eq : Ieee.double.binade = 4503599627370496 := by rfl
theorem inf_eq : Ieee.double.infRung = 9218868437227405312 := by rfl

/-- What a rung is worth, in units of the least place. -/
def worth (r : Nat) : Nat := if r < 4503599627370496 then r else (4503599627370496 + r % 4503599627370496) * 2 ^ (r / 4503599627370496 - 1)

theorem worth_step (r : Nat) : worth r < worth (r + 1) := by
  unfold worth
  by_cases h : r + 1 < 4503599627370496
  · rw [if_pos (by omega), if_pos h]; omega
  · by_cases h2 : r < 4503599627370496
    · have : r = 4503599627370495 := by omega
      subst this
      rw [if_pos (by omega), if_neg (by omega)]
      have e1 : (4503599627370495 + 1) % 4503599627370496 = 0 := by omega
      have e2 : (4503599627370495 + 1) / 4503599627370496 - 1 = 0 := by omega
      rw [e1, e2]; omega
    · rw [if_neg h2, if_neg h]
      by_cases h3 : r % 4503599627370496 + 1 < 4503599627370496
      · have e1 : (r + 1) % 4503599627370496 = r % 4503599627370496 + 1 := by omega
        have e2 : (r + 1) / 4503599627370496 = r / 4503599627370496 := by omega
        rw [e1, e2]
        exact Nat.mul_lt_mul_of_pos_right (by omega) (Nat.two_pow_pos _)
      · have e1 : (r + 1) % 4503599627370496 = 0 := by omega
        have e2 : (r + 1) / 4503599627370496 - 1 = (r / 4503599627370496 - 1) + 1 := by omega
        have e3 : r % 4503599627370496 = 4503599627370495 := by omega
        rw [e1, e2, e3, Nat.pow_succ]
        have := Nat.two_pow_pos (r / 4503599627370496 - 1)
        generalize 2 ^ (r / 4503599627370496 - 1) = p at *
        omega

theorem worth_lt {a b : Nat} (h : a < b) : worth a < worth b := by
  induction b with
  | zero => omega
  | succ n ih =>
    have := worth_step n
    by_cases e : a = n
    · subst e; exact this
    · have := ih (by omega); omega

theorem worth_lt_iff (a b : Nat) : worth a < worth b ↔ a < b := by
  constructor
  · intro h
    by_cases h2 : a < b
    · exact h2
    · by_cases h3 : a = b
      · subst h3; omega
      · have := worth_lt (show b < a by omega); omega
  · exact worth_lt

theorem worth_eq_iff (a b : Nat) : worth a = worth b ↔ a = b := by
  constructor
  · intro h
    by_cases h2 : a < b
    · have := worth_lt h2; omega
    · by_cases h3 : b < a
      · have := worth_lt h3; omega
      · omega
  · rintro rfl; rfl

theorem worth_zero : worth 0 = 0 := by unfold worth; rw [if_pos (by omega)]

/-- The worth with its sign. -/
def sw (b : Nat) : Int := if isNeg b then -(worth (rung b) : Int) else (worth (rung b) : Int)

theorem sw_lt (a b : Nat) : sw a < sw b ↔ sv a < sv b := by
  have h1 := worth_lt_iff (rung a) (rung b)
  have h2 := worth_lt_iff (rung b) (rung a)
  have h3 := worth_lt_iff 0 (rung a)
  have h4 := worth_lt_iff 0 (rung b)
  have h5 := worth_zero
  unfold sw sv
  cases isNeg a <;> cases isNeg b <;> simp <;> omega

theorem sw_eq_iff (a b : Nat) : sw a = sw b ↔ sv a = sv b := by
  have h1 := sw_lt a b
  have h2 := sw_lt b a
  omega

theorem neg_eq (b : Nat) (h : b < 18446744073709551616) : (b / 9223372036854775808 % 2 == 1) = isNeg b := by
  unfold isNeg
  by_cases h2 : 9223372036854775808 ≤ b
  · have : b / 9223372036854775808 = 1 := by omega
    simp [this, h2]
  · have : b / 9223372036854775808 = 0 := by omega
    simp [this, h2]

theorem read_nan (b : Nat) (hn : isNan b = true) : ∃ s t, Ieee.double.read b = .nan s t := by
  unfold isNan at hn
  have hr : 9218868437227405312 < rung b := of_decide_eq_true hn
  unfold rung at hr
  unfold Ieee.Format.read
  simp only [sw_eq, bin_eq, inf_eq]
  rw [if_neg (by omega), if_neg (by omega), if_neg (by omega)]
  exact ⟨_, _, rfl⟩

theorem read_inf (b : Nat) (h : b < 18446744073709551616) (hn : rung b = 9218868437227405312) : Ieee.double.read b = .infinity (isNeg b) := by
  unfold rung at hn
  unfold Ieee.Format.read
  simp only [sw_eq, bin_eq, inf_eq]
  rw [if_neg (by omega), if_neg (by omega), if_pos (by omega), neg_eq b h]

theorem read_num (b : Nat) (h : b < 18446744073709551616) (hn : rung b < 9218868437227405312) :
    ∃ m e : Nat, Ieee.double.read b = .number (isNeg b) m (Ieee.double.leastPlace + (e : Int)) ∧ m * 2 ^ e = worth (rung b) := by
  unfold rung at hn
  unfold Ieee.Format.read
  simp only [sw_eq, bin_eq, inf_eq]
  by_cases h2 : b % 9223372036854775808 < 4503599627370496
  · rw [if_pos h2]
    refine ⟨b % 9223372036854775808, 0, ?_, ?_⟩
    · rw [neg_eq b h]; simp
    · unfold worth rung; rw [if_pos h2]; simp
  · rw [if_neg h2, if_pos hn]
    refine ⟨_, _, by rw [neg_eq b h], ?_⟩
    unfold worth rung; rw [if_neg h2]

theorem signed_mul (s : Bool) (m k p : Nat) : Ieee.signed s m k * ((2 ^ p : Nat) : Int) = if s then -((m * 2 ^ (k + p) : Nat) : Int) else ((m * 2 ^ (k + p) : Nat) : Int) := by
  unfold Ieee.signed
  rw [Nat.shiftLeft_eq, Nat.pow_add, ← Nat.mul_assoc]
  cases s <;> simp [Int.neg_mul]

theorem compare_int (a b : Int) : compare a b = if a < b then .lt else if a = b then .eq else .gt := rfl

theorem mul_lt_iff (x y : Int) (p : Nat) : x * ((2 ^ p : Nat) : Int) < y * ((2 ^ p : Nat) : Int) ↔ x < y := by
  have hp : (0 : Int) < ((2 ^ p : Nat) : Int) := by exact_mod_cast Nat.two_pow_pos p
  exact Int.mul_lt_mul_right hp

theorem order_num (a b : Nat) (ha : a < 18446744073709551616) (hb : b < 18446744073709551616) (na : rung a < 9218868437227405312) (nb : rung b < 9218868437227405312) :
    Ieee.double.order a b = some (if sv a < sv b then .lt else if sv a = sv b then .eq else .gt) := by
  obtain ⟨m, e, h1, w1⟩ := read_num a ha na
  obtain ⟨n, f, h2, w2⟩ := read_num b hb nb
  unfold Ieee.Format.order
  rw [h1, h2]
  unfold Ieee.Datum.order
  simp only
  have e1 : (Ieee.double.leastPlace + (e : Int) - min (Ieee.double.leastPlace + (e : Int)) (Ieee.double.leastPlace + (f : Int))).toNat = e - min e f := by omega
  have e2 : (Ieee.double.leastPlace + (f : Int) - min (Ieee.double.leastPlace + (e : Int)) (Ieee.double.leastPlace + (f : Int))).toNat = f - min e f := by omega
  rw [e1, e2, compare_int]
  have x1 : Ieee.signed (isNeg a) m (e - min e f) * ((2 ^ (min e f) : Nat) : Int) = sw a := by
    rw [signed_mul, show e - min e f + min e f = e from by omega, w1]; rfl
  have x2 : Ieee.signed (isNeg b) n (f - min e f) * ((2 ^ (min e f) : Nat) : Int) = sw b := by
    rw [signed_mul, show f - min e f + min e f = f from by omega, w2]; rfl
  have l1 := mul_lt_iff (Ieee.signed (isNeg a) m (e - min e f)) (Ieee.signed (isNeg b) n (f - min e f)) (min e f)
  have l2 := mul_lt_iff (Ieee.signed (isNeg b) n (f - min e f)) (Ieee.signed (isNeg a) m (e - min e f)) (min e f)
  rw [x1, x2, sw_lt] at l1
  rw [x1, x2, sw_lt] at l2
  generalize Ieee.signed (isNeg a) m (e - min e f) = X at *
  generalize Ieee.signed (isNeg b) n (f - min e f) = Y at *
  by_cases c1 : X < Y
  · rw [if_pos c1, if_pos (l1.2 c1)]
  · rw [if_neg c1, if_neg (fun h => c1 (l1.1 h))]
    by_cases c2 : Y < X
    · rw [if_neg (by omega), if_neg (by have := l2.2 c2; omega)]
    · rw [if_pos (by omega), if_pos (by have h1 := fun h => c1 (l1.1 h); have h2 := fun h => c2 (l2.1 h); omega)]

/-- Three ways to stand to each other. -/
def cmp3 (x y : Int) : Ordering := if x < y then .lt else if x = y then .eq else .gt

theorem compare_nat (a b : Nat) : compare a b = if a < b then .lt else if a = b then .eq else .gt := rfl

theorem order_all (a b : Nat) (ha : a < 18446744073709551616) (hb : b < 18446744073709551616) :
    Ieee.double.order a b = if isNan a || isNan b then none else some (cmp3 (sv a) (sv b)) := by
  by_cases na : isNan a = true
  · obtain ⟨s, t, h⟩ := read_nan a na
    rw [na]; unfold Ieee.Format.order; rw [h]; rfl
  by_cases nb : isNan b = true
  · obtain ⟨s, t, h⟩ := read_nan b nb
    rw [nb]; unfold Ieee.Format.order; rw [h]
    cases Ieee.double.read a <;> simp [Ieee.Datum.order]
  have na' : isNan a = false := by simpa using na
  have nb' : isNan b = false := by simpa using nb
  rw [na', nb']
  have ra : rung a ≤ 9218868437227405312 := by have := of_decide_eq_false na'; omega
  have rb : rung b ≤ 9218868437227405312 := by have := of_decide_eq_false nb'; omega
  clear na nb na' nb'
  simp only [Bool.or_self, Bool.false_eq_true, if_false]
  unfold cmp3
  by_cases ia : rung a = 9218868437227405312
  · have h1 := read_inf a ha ia
    by_cases ib : rung b = 9218868437227405312
    · have h2 := read_inf b hb ib
      unfold Ieee.Format.order; rw [h1, h2]; unfold Ieee.Datum.order; simp only
      unfold sv; rw [ia, ib]
      cases isNeg a <;> cases isNeg b <;> rfl
    · obtain ⟨n, f, h2, _⟩ := read_num b hb (by omega)
      unfold Ieee.Format.order; rw [h1, h2]; unfold Ieee.Datum.order; simp only
      unfold sv; rw [ia]
      cases isNeg a
      · simp only [Bool.false_eq_true, if_false]
        rw [if_neg (by split <;> omega), if_neg (by split <;> omega)]
      · simp only [if_true]
        rw [if_pos (by split <;> omega)]
  · by_cases ib : rung b = 9218868437227405312
    · have h2 := read_inf b hb ib
      obtain ⟨n, f, h1, _⟩ := read_num a ha (by omega)
      unfold Ieee.Format.order; rw [h1, h2]; unfold Ieee.Datum.order; simp only
      unfold sv; rw [ib]
      cases isNeg b
      · simp only [Bool.false_eq_true, if_false]
        rw [if_pos (by split <;> omega)]
      · simp only [if_true]
        rw [if_neg (by split <;> omega), if_neg (by split <;> omega)]
    · exact order_num a b ha hb (by omega) (by omega)

/-- A number's place in the order. -/
def rk (b : Nat) : Int := if b < 9223372036854775808 then b + 9223372036854775808 else 18446744073709551615 - b

theorem rk_sv (b : Nat) : rk b = 9223372036854775808 + sv b - (if isNeg b then 1 else 0) ∨ 18446744073709551616 ≤ b := by
  by_cases hb : b < 18446744073709551616
  · left
    unfold rk sv isNeg rung
    by_cases h : b < 9223372036854775808
    · have h2 : ¬ 9223372036854775808 ≤ b := by omega
      simp [h, h2]; omega
    · have h2 : 9223372036854775808 ≤ b := by omega
      simp [h, h2]; omega
  · right; omega

theorem rk_bd (b : Nat) (h : b < 18446744073709551616) : 0 ≤ rk b ∧ rk b < 18446744073709551616 := by
  unfold rk; split <;> omega

theorem rk_inj (a b : Nat) (ha : a < 18446744073709551616) (hb : b < 18446744073709551616) (h : rk a = rk b) : a = b := by
  unfold rk at h; split at h <;> split at h <;> omega

/-- The bits of a rank. -/
def bk (n : Int) : Nat := if n < 9223372036854775808 then (18446744073709551615 - n).toNat else (n - 9223372036854775808).toNat

theorem bk_bd (n : Int) (h0 : 0 ≤ n) (h : n < 18446744073709551616) : bk n < 18446744073709551616 := by
  unfold bk; split <;> omega
theorem bk_rk (b : Nat) (h : b < 18446744073709551616) : bk (rk b) = b := by
  unfold bk rk; split <;> split <;> omega
theorem rk_bk (n : Int) (h0 : 0 ≤ n) (h : n < 18446744073709551616) : rk (bk n) = n := by
  unfold bk rk; split <;> split <;> omega

/-- The class of a number. -/
def cls (b : Nat) : Int :=
  if isNan b then 1
  else if b < 9223372036854775808 then (if b = 9218868437227405312 then 7 else if b = 0 then 5 else 6)
  else (if b = 18442240474082181120 then 2 else if b = 9223372036854775808 then 4 else 3)
end Go.Proofs.Ytlfpmmdekanjkaa
