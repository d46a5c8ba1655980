/- Plain mathematics of layer 3, no program: checks, moved; bytes, words, lists; a change in one half is seen. -/
namespace Go.Proofs.Ytmenkolceahebaa.Sm

/-- A check, moved once. -/
def mv (x : Nat) : Nat := if x % 2 = 1 then (x / 2) ^^^ 3988292384 else x / 2
def mvs : Nat → Nat → Nat
  | 0, x => x
  | k + 1, x => mv (mvs k x)
theorem mvs_zero (x : Nat) : mvs 0 x = x := rfl
theorem mvs_succ (k x : Nat) : mvs (k + 1) x = mv (mvs k x) := rfl
theorem mv_odd {x : Nat} (h : x % 2 = 1) : mv x = (x / 2) ^^^ 3988292384 := if_pos h
theorem mv_even {x : Nat} (h : x % 2 = 0) : mv x = x / 2 := if_neg (by omega)
theorem xor_mod2 (a b : Nat) : (a ^^^ b) % 2 = (a % 2 + b % 2) % 2 := by
  have h := Nat.xor_mod_two_pow (a := a) (b := b) (n := 1)
  simp only [Nat.pow_one] at h
  rw [h]
  rcases Nat.mod_two_eq_zero_or_one a with ha | ha <;> rcases Nat.mod_two_eq_zero_or_one b with hb | hb <;> rw [ha, hb] <;> rfl
theorem xor_div2 (a b : Nat) : (a ^^^ b) / 2 = a / 2 ^^^ b / 2 := by
  have h := Nat.xor_div_two_pow (a := a) (b := b) (n := 1)
  simpa using h
theorem xor_swap (a b c d : Nat) : a ^^^ b ^^^ (c ^^^ d) = a ^^^ c ^^^ (b ^^^ d) := by
  rw [Nat.xor_assoc, ← Nat.xor_assoc b c d, Nat.xor_comm b c, Nat.xor_assoc c b d, ← Nat.xor_assoc]
theorem mv_xor (a b : Nat) : mv (a ^^^ b) = mv a ^^^ mv b := by
  have h2 := xor_mod2 a b
  have hd := xor_div2 a b
  rcases Nat.mod_two_eq_zero_or_one a with ha | ha <;> rcases Nat.mod_two_eq_zero_or_one b with hb | hb <;> rw [ha, hb] at h2
  · rw [mv_even h2, mv_even ha, mv_even hb, hd]
  · rw [mv_odd h2, mv_even ha, mv_odd hb, hd, Nat.xor_assoc]
  · rw [mv_odd h2, mv_odd ha, mv_even hb, hd, Nat.xor_assoc, Nat.xor_assoc, Nat.xor_comm (b / 2)]
  · rw [mv_even h2, mv_odd ha, mv_odd hb, hd, xor_swap, Nat.xor_self, Nat.xor_zero]
theorem mv_lt {x : Nat} (h : x < 4294967296) : mv x < 4294967296 := by
  unfold mv
  split
  · exact Nat.xor_lt_two_pow (n := 32) (by omega) (by omega)
  · omega
theorem mv_zero : mv 0 = 0 := rfl
theorem mv_inj0 {x : Nat} (h : x < 4294967296) (e : mv x = 0) : x = 0 := by
  rcases Nat.mod_two_eq_zero_or_one x with hx | hx
  · rw [mv_even hx] at e; omega
  · rw [mv_odd hx] at e
    have : x / 2 = 3988292384 := by
      have := congrArg (· ^^^ 3988292384) e
      simpa [Nat.xor_assoc] using this
    omega
theorem mv_double (x : Nat) : mv (2 * x) = x := by rw [mv_even (by omega)]; omega

theorem mvs_xor (k a b : Nat) : mvs k (a ^^^ b) = mvs k a ^^^ mvs k b := by
  induction k with
  | zero => rfl
  | succ k ih => rw [mvs_succ, ih, mv_xor]; rfl
theorem mvs_lt (k : Nat) {x : Nat} (h : x < 4294967296) : mvs k x < 4294967296 := by
  induction k with
  | zero => exact h
  | succ k ih => exact mv_lt ih
theorem mvs_nought (k : Nat) : mvs k 0 = 0 := by
  induction k with
  | zero => rfl
  | succ k ih => rw [mvs_succ, ih]; rfl
theorem mvs_inj0 (k : Nat) {x : Nat} (h : x < 4294967296) (e : mvs k x = 0) : x = 0 := by
  induction k with
  | zero => exact e
  | succ k ih => exact ih (mv_inj0 (mvs_lt k h) e)
theorem xor_eq0 {a b : Nat} (h : a ^^^ b = 0) : a = b := by
  have := congrArg (· ^^^ b) h
  simpa [Nat.xor_assoc] using this
theorem mvs_inj (k : Nat) {x y : Nat} (hx : x < 4294967296) (hy : y < 4294967296) (e : mvs k x = mvs k y) : x = y := by
  have h : mvs k (x ^^^ y) = 0 := by rw [mvs_xor, e, Nat.xor_self]
  exact xor_eq0 (mvs_inj0 k (Nat.xor_lt_two_pow (n := 32) hx hy) h)
theorem mvs_add (j k x : Nat) : mvs (j + k) x = mvs j (mvs k x) := by
  induction j with
  | zero => rw [Nat.zero_add]; rfl
  | succ j ih => rw [show j + 1 + k = j + k + 1 by omega, mvs_succ, ih]; rfl
theorem mvs_in (k x : Nat) : mvs (k + 1) x = mvs k (mv x) := mvs_add k 1 x
theorem mvs_up (k x : Nat) : mvs k (2 ^ k * x) = x := by
  induction k with
  | zero => simp [mvs]
  | succ k ih => rw [mvs_in, show 2 ^ (k + 1) * x = 2 * (2 ^ k * x) by rw [Nat.pow_succ]; simp [Nat.mul_comm, Nat.mul_left_comm], mv_double, ih]
theorem join_xor (k h r : Nat) (hr : r < 2 ^ k) : 2 ^ k * h + r = (2 ^ k * h) ^^^ r := by
  apply Nat.eq_of_testBit_eq
  intro i
  rw [Nat.testBit_xor, Nat.testBit_two_pow_mul_add h hr, Nat.testBit_two_pow_mul]
  by_cases hi : i < k
  · simp [hi, Nat.not_le.2 hi]
  · have : r.testBit i = false := Nat.testBit_lt_two_pow (Nat.lt_of_lt_of_le hr (Nat.pow_le_pow_right (by decide) (by omega)))
    simp [hi, this, Nat.le_of_not_lt hi]
/-- Four moves at once: what the lowest half byte becomes, and the rest, moved down. -/
theorem mvs_four (c : Nat) : c / 16 ^^^ mvs 4 (c % 16) = mvs 4 c := by
  have h : c = (2 ^ 4 * (c / 16)) ^^^ (c % 16) := by
    rw [← join_xor 4 _ _ (by omega)]
    omega
  conv => rhs; rw [h]
  rw [mvs_xor, mvs_up]

/-- The check with one byte more. -/
def byF (c b : Nat) : Nat := mvs 8 (c ^^^ b)
theorem byF_eq (c b : Nat) : byF c b = mvs 4 (mvs 4 (c ^^^ b)) := mvs_add 4 4 _
theorem byF_lt {c b : Nat} (hc : c < 4294967296) (hb : b < 256) : byF c b < 4294967296 := mvs_lt 8 (Nat.xor_lt_two_pow (n := 32) hc (by omega))
theorem byF_xor (a b c d : Nat) : byF (a ^^^ b) (c ^^^ d) = byF a c ^^^ byF b d := by
  unfold byF
  rw [xor_swap, mvs_xor]
theorem byF_nought : byF 0 0 = 0 := rfl
theorem byF_inj {c d b : Nat} (hc : c < 4294967296) (hd : d < 4294967296) (hb : b < 256) (e : byF c b = byF d b) : c = d := by
  have := mvs_inj 8 (Nat.xor_lt_two_pow (n := 32) hc (by omega)) (Nat.xor_lt_two_pow (n := 32) hd (by omega)) e
  have := congrArg (· ^^^ b) this
  simpa [Nat.xor_assoc] using this
theorem byF_inj2 {c a b : Nat} (hc : c < 4294967296) (ha : a < 256) (hb : b < 256) (e : byF c a = byF c b) : a = b := by
  have := mvs_inj 8 (Nat.xor_lt_two_pow (n := 32) hc (by omega)) (Nat.xor_lt_two_pow (n := 32) hc (by omega)) e
  have := congrArg (c ^^^ ·) this
  simpa [← Nat.xor_assoc] using this

/-- The byte at place i of a word's eight, the highest first; and the check behind k of them. -/
def bt (n i : Nat) : Nat := n / 2 ^ (56 - 8 * i) % 256
def wdU (c n : Nat) : Nat → Nat
  | 0 => c
  | k + 1 => byF (wdU c n k) (bt n k)
/-- The check with a word more. -/
def wd (c n : Nat) : Nat := wdU c n 8
theorem wdU_zero (c n : Nat) : wdU c n 0 = c := rfl
theorem wdU_succ (c n k : Nat) : wdU c n (k + 1) = byF (wdU c n k) (bt n k) := rfl
theorem wd_eq (c n : Nat) : wd c n = wdU c n 8 := rfl
theorem bt_lt (n i : Nat) : bt n i < 256 := Nat.mod_lt _ (by decide)
theorem bt_xor (m n i : Nat) : bt (m ^^^ n) i = bt m i ^^^ bt n i := by
  unfold bt
  rw [Nat.xor_div_two_pow, show (256 : Nat) = 2 ^ 8 by rfl, Nat.xor_mod_two_pow]
theorem wdU_lt {c : Nat} (n k : Nat) (hc : c < 4294967296) : wdU c n k < 4294967296 := by
  induction k with
  | zero => exact hc
  | succ k ih => exact byF_lt ih (bt_lt _ _)
theorem wd_lt {c : Nat} (n : Nat) (hc : c < 4294967296) : wd c n < 4294967296 := wdU_lt n 8 hc
theorem wdU_xor (a b m n k : Nat) : wdU (a ^^^ b) (m ^^^ n) k = wdU a m k ^^^ wdU b n k := by
  induction k with
  | zero => rfl
  | succ k ih => rw [wdU_succ, ih, bt_xor, byF_xor]; rfl
theorem wd_xor (a b m n : Nat) : wd (a ^^^ b) (m ^^^ n) = wd a m ^^^ wd b n := wdU_xor a b m n 8
theorem wdU_inj {c d : Nat} (n k : Nat) (hc : c < 4294967296) (hd : d < 4294967296) (e : wdU c n k = wdU d n k) : c = d := by
  induction k with
  | zero => exact e
  | succ k ih => exact ih (byF_inj (wdU_lt n k hc) (wdU_lt n k hd) (bt_lt _ _) e)
theorem wd_inj {c d : Nat} (n : Nat) (hc : c < 4294967296) (hd : d < 4294967296) (e : wd c n = wd d n) : c = d := wdU_inj n 8 hc hd e

/-- A byte more behind 8k moves, as a turn ahead of them. -/
theorem byF_up (k t b : Nat) : byF (mvs k t) b = mvs (8 + k) (t ^^^ 2 ^ k * b) := by
  unfold byF
  rw [mvs_add, mvs_xor k, mvs_up]
theorem four_nought {b0 b1 b2 b3 : Nat} (h0 : b0 < 256) (h1 : b1 < 256) (h2 : b2 < 256) (h3 : b3 < 256) (e : byF (byF (byF (byF 0 b0) b1) b2) b3 = 0) : b0 = 0 ∧ b1 = 0 ∧ b2 = 0 ∧ b3 = 0 := by
  have s0 : byF 0 b0 = mvs 8 b0 := by unfold byF; rw [Nat.zero_xor]
  rw [s0, byF_up, byF_up, byF_up] at e
  have j1 : b0 ^^^ 2 ^ 8 * b1 = 2 ^ 8 * b1 + b0 := by rw [Nat.xor_comm, join_xor 8 _ _ (by omega)]
  rw [j1] at e
  have j2 : (2 ^ 8 * b1 + b0) ^^^ 2 ^ (8 + 8) * b2 = 2 ^ 16 * b2 + (2 ^ 8 * b1 + b0) := by rw [Nat.xor_comm, join_xor 16 _ _ (by omega)]
  rw [j2] at e
  have j3 : (2 ^ 16 * b2 + (2 ^ 8 * b1 + b0)) ^^^ 2 ^ (8 + (8 + 8)) * b3 = 2 ^ 24 * b3 + (2 ^ 16 * b2 + (2 ^ 8 * b1 + b0)) := by rw [Nat.xor_comm, join_xor 24 _ _ (by omega)]
  rw [j3] at e
  have := mvs_inj0 _ (by omega) e
  omega
theorem wdU_noughts {n : Nat} (k : Nat) (h : ∀ i, i < k → bt n i = 0) : wdU 0 n k = 0 := by
  induction k with
  | zero => rfl
  | succ k ih => rw [wdU_succ, ih (fun i hi => h i (by omega)), h k (by omega)]; rfl
theorem wd_low {n : Nat} (h : n < 4294967296) (e : wd 0 n = 0) : n = 0 := by
  have h4 : wdU 0 n 4 = 0 := wdU_noughts 4 (fun i hi => by
    unfold bt
    rw [Nat.div_eq_of_lt (Nat.lt_of_lt_of_le h (show 2 ^ 32 ≤ _ from Nat.pow_le_pow_right (by decide) (by omega)))])
  rw [wd_eq, wdU_succ, wdU_succ, wdU_succ, wdU_succ, h4] at e
  have := four_nought (bt_lt _ _) (bt_lt _ _) (bt_lt _ _) (bt_lt _ _) e
  unfold bt at this
  omega
theorem byF_nz {s : Nat} (hs : s < 4294967296) (e : byF s 0 = 0) : s = 0 := by
  unfold byF at e
  rw [Nat.xor_zero] at e
  exact mvs_inj0 8 hs e
theorem wd_high {n : Nat} (h : n < 4294967296) (e : wd 0 (4294967296 * n) = 0) : n = 0 := by
  have hz : ∀ i, 4 ≤ i → i < 8 → bt (4294967296 * n) i = 0 := by
    intro i hi hi8
    unfold bt
    obtain rfl | rfl | rfl | rfl : i = 4 ∨ i = 5 ∨ i = 6 ∨ i = 7 := by omega
    all_goals omega
  rw [wd_eq, wdU_succ, hz 7 (by omega) (by omega)] at e
  have e := byF_nz (wdU_lt _ _ (by omega)) e
  rw [wdU_succ, hz 6 (by omega) (by omega)] at e
  have e := byF_nz (wdU_lt _ _ (by omega)) e
  rw [wdU_succ, hz 5 (by omega) (by omega)] at e
  have e := byF_nz (wdU_lt _ _ (by omega)) e
  rw [wdU_succ, hz 4 (by omega) (by omega)] at e
  have e := byF_nz (wdU_lt _ _ (by omega)) e
  rw [wdU_succ, wdU_succ, wdU_succ, wdU_succ, wdU_zero] at e
  have := four_nought (bt_lt _ _) (bt_lt _ _) (bt_lt _ _) (bt_lt _ _) e
  unfold bt at this
  omega

/-- A word as a number of 64 bits. -/
def u64 (z : Int) : Nat := (z % 18446744073709551616).toNat
theorem u64_lt (z : Int) : u64 z < 18446744073709551616 := by unfold u64; omega
/-- The check behind the words of a list, from c on. -/
def goF (c : Nat) : List Int → Nat
  | [] => c
  | z :: l => goF (wd c (u64 z)) l
theorem goF_append (c : Nat) (l m : List Int) : goF c (l ++ m) = goF (goF c l) m := by
  induction l generalizing c with
  | nil => rfl
  | cons z l ih => exact ih _
theorem goF_one (c : Nat) (l : List Int) (z : Int) : goF c (l ++ [z]) = wd (goF c l) (u64 z) := by rw [goF_append]; rfl
theorem goF_lt {c : Nat} (l : List Int) (h : c < 4294967296) : goF c l < 4294967296 := by
  induction l generalizing c with
  | nil => exact h
  | cons z l ih => exact ih (wd_lt _ h)
theorem goF_inj {c d : Nat} (l : List Int) (hc : c < 4294967296) (hd : d < 4294967296) (e : goF c l = goF d l) : c = d := by
  induction l generalizing c d with
  | nil => exact e
  | cons z l ih => exact wd_inj _ hc hd (ih (wd_lt _ hc) (wd_lt _ hd) e)
/-- The check of words. -/
def ofF (l : List Int) : Nat := 4294967295 - goF 4294967295 l
theorem ofF_lt (l : List Int) : ofF l < 4294967296 := by unfold ofF; omega
theorem ofF_eq {l m : List Int} : ofF l = ofF m ↔ goF 4294967295 l = goF 4294967295 m := by
  have h1 := goF_lt l (show 4294967295 < 4294967296 by omega)
  have h2 := goF_lt m (show 4294967295 < 4294967296 by omega)
  unfold ofF
  omega
theorem ofF_more (l m r : List Int) : ofF (l ++ r) = ofF (m ++ r) ↔ ofF l = ofF m := by
  rw [ofF_eq, ofF_eq, goF_append, goF_append]
  exact ⟨goF_inj r (goF_lt l (by omega)) (goF_lt m (by omega)), fun h => by rw [h]⟩
/-- Lists that differ at one place alone, by what turns no check to itself. -/
theorem ofF_set (l : List Int) (k : Nat) (z : Int) (hk : k < l.length) (h : wd 0 (u64 l[k] ^^^ u64 z) ≠ 0) : ofF l ≠ ofF (l.set k z) := by
  intro e
  rw [ofF_eq] at e
  have hs : l.set k z = l.take k ++ z :: l.drop (k + 1) := List.set_eq_take_append_cons_drop .. |>.trans (if_pos hk)
  have hl : l = l.take k ++ l[k] :: l.drop (k + 1) := by simp
  rw [hs, goF_append] at e
  conv at e => lhs; rw [hl, goF_append]
  have hc : goF 4294967295 (l.take k) < 4294967296 := goF_lt _ (by omega)
  have e2 := goF_inj (l.drop (k + 1)) (wd_lt _ hc) (wd_lt _ hc) e
  apply h
  have := wd_xor (goF 4294967295 (l.take k)) (goF 4294967295 (l.take k)) (u64 l[k]) (u64 z)
  rw [Nat.xor_self] at this
  rw [this, e2, Nat.xor_self]
/-- The check as a turn of all bits. -/
theorem ofF_turn (l : List Int) : ofF l = goF 4294967295 l ^^^ 4294967295 := by
  have h := goF_lt l (show 4294967295 < 4294967296 by omega)
  unfold ofF
  generalize goF 4294967295 l = x at h
  apply Nat.eq_of_testBit_eq
  intro i
  have := Nat.testBit_two_pow_sub_succ (n := 32) (x := x) h i
  rw [show 4294967295 - x = 2 ^ 32 - (x + 1) by omega, this, Nat.testBit_xor, show (4294967295 : Nat) = 2 ^ 32 - 1 by rfl, Nat.testBit_two_pow_sub_one]
  by_cases hi : i < 32
  · simp [hi]
  · have : x.testBit i = false := Nat.testBit_lt_two_pow (Nat.lt_of_lt_of_le h (show 2 ^ 32 ≤ _ from Nat.pow_le_pow_right (by decide) (by omega)))
    simp [hi, this]
/-- Words turned one by one. -/
theorem goF_turns (f : Int → Int → Int) (hf : ∀ a b, u64 (f a b) = u64 a ^^^ u64 b) (a by' : List Int) (c d : Nat) (h : a.length = by'.length) :
    goF c a ^^^ goF d (List.zipWith f a by') = goF (c ^^^ d) by' := by
  induction a generalizing by' c d with
  | nil =>
    cases by' with
    | nil => rfl
    | cons _ _ => simp at h
  | cons x a ih =>
    cases by' with
    | nil => simp at h
    | cons y r =>
      show goF (wd c (u64 x)) a ^^^ goF (wd d (u64 (f x y))) (List.zipWith f a r) = goF (wd (c ^^^ d) (u64 y)) r
      rw [ih r _ _ (by simpa using h), ← wd_xor, hf, ← Nat.xor_assoc, Nat.xor_self, Nat.zero_xor]
theorem ofF_turns (f : Int → Int → Int) (hf : ∀ a b, u64 (f a b) = u64 a ^^^ u64 b) (a b by' : List Int) (h1 : a.length = by'.length) (h2 : b.length = by'.length) :
    ofF a ^^^ ofF (List.zipWith f a by') = ofF b ^^^ ofF (List.zipWith f b by') := by
  simp only [ofF_turn]
  rw [xor_swap, xor_swap (goF 4294967295 b), goF_turns f hf a by' _ _ h1, goF_turns f hf b by' _ _ h2]
theorem or_mod2 (a b : Nat) : (a ||| b) % 2 = (a % 2 + b % 2 + a % 2 * (b % 2)) % 2 := by
  have h := Nat.or_mod_two_pow (a := a) (b := b) (n := 1)
  simp only [Nat.pow_one] at h
  rw [h]
  rcases Nat.mod_two_eq_zero_or_one a with ha | ha <;> rcases Nat.mod_two_eq_zero_or_one b with hb | hb <;> rw [ha, hb] <;> rfl
theorem and_mod2 (a b : Nat) : (a &&& b) % 2 = a % 2 * (b % 2) := by
  have h := Nat.and_mod_two_pow (a := a) (b := b) (n := 1)
  simp only [Nat.pow_one] at h
  rw [h]
  rcases Nat.mod_two_eq_zero_or_one a with ha | ha <;> rcases Nat.mod_two_eq_zero_or_one b with hb | hb <;> rw [ha, hb] <;> rfl
/-- Or less and. -/
theorem or_and (a b : Nat) : a ||| b = (a ^^^ b) + (a &&& b) := by
  induction a using Nat.strongRecOn generalizing b with
  | ind a ih =>
    by_cases h0 : a = 0
    · subst h0; simp
    · have hi := ih (a / 2) (by omega) (b / 2)
      have o2 : (a ||| b) / 2 = a / 2 ||| b / 2 := by simpa using Nat.or_div_two_pow (a := a) (b := b) (n := 1)
      have n2 : (a &&& b) / 2 = a / 2 &&& b / 2 := by simpa using Nat.and_div_two_pow (a := a) (b := b) (n := 1)
      have x2 := xor_div2 a b
      have om := or_mod2 a b
      have nm := and_mod2 a b
      have xm := xor_mod2 a b
      rcases Nat.mod_two_eq_zero_or_one a with ha | ha <;> rcases Nat.mod_two_eq_zero_or_one b with hb | hb <;> rw [ha, hb] at om nm xm <;> omega
theorem or_less_and (a b : Nat) : (a ||| b) - (a &&& b) = a ^^^ b := by rw [or_and]; omega
end Go.Proofs.Ytmenkolceahebaa.Sm
