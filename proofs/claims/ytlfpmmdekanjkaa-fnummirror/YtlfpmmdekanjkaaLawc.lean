/- Walks of layer 1's statements: turns, mirror. -/
import Derived.Test.YtlfpmmdekanjkaaLawb
namespace Go.Proofs.Ytlfpmmdekanjkaa
open Go.RowKit

theorem rk_flip (a : Nat) (h : a < 18446744073709551616) : rk a = 18446744073709551615 - rk (flip a) := by
  unfold rk flip; split <;> split <;> omega
theorem rung_flip (a : Nat) (h : a < 18446744073709551616) : rung (flip a) = rung a := by
  unfold rung flip; split <;> omega
theorem isNan_flip (a : Nat) (h : a < 18446744073709551616) : isNan (flip a) = isNan a := by
  unfold isNan; rw [rung_flip a h]
theorem isNeg_flip (a : Nat) (h : a < 18446744073709551616) : isNeg (flip a) = !isNeg a := by
  unfold isNeg flip
  by_cases hl : a < 9223372036854775808
  · rw [if_pos hl, decide_eq_true (by omega), decide_eq_false (by omega)]; rfl
  · rw [if_neg hl, decide_eq_false (by omega), decide_eq_true (by omega)]; rfl
theorem sv_flip (a : Nat) (h : a < 18446744073709551616) : sv (flip a) = - sv a := by
  unfold sv; rw [isNeg_flip a h, rung_flip a h]
  cases isNeg a <;> simp
theorem cls_bd (b : Nat) : 1 ≤ cls b ∧ cls b ≤ 7 := by
  unfold cls; repeat' split
  all_goals omega
theorem cls_ne (b : Nat) (h : isNan b = false) : 2 ≤ cls b := by
  unfold cls; rw [h]; simp only [Bool.false_eq_true, if_false]; repeat' split
  all_goals omega
theorem cls_flip (a : Nat) (h : a < 18446744073709551616) (hn : isNan a = false) : cls a + cls (flip a) = 9 := by
  have hf := isNan_flip a h
  rw [hn] at hf
  by_cases hl : a < 9223372036854775808
  · have e : flip a = a + 9223372036854775808 := by unfold flip; rw [if_pos hl]
    rw [cls_hi a hn hl, cls_lo _ hf (by omega), e]
    repeat' split
    all_goals omega
  · have e : flip a = a - 9223372036854775808 := by unfold flip; rw [if_neg hl]
    rw [cls_lo a hn (by omega), cls_hi _ hf (by omega), e]
    repeat' split
    all_goals omega

set_option maxRecDepth 100000 in
set_option maxHeartbeats 2000000 in
theorem turns_nan (a : Nat) (w : World) (ha : a < 18446744073709551616) (hn : isNan a = true) :
    Calls Try.prog 8 #[.float .f64 a] w fun e w' => e = .returned (.bool true) ∧ Below w.heap.size w w' := by
  have h22 := bits_run
  have h25 := from_run
  have hf := flip_lt a ha
  have c1 := cls_nan a hn
  have c2 := cls_nan (flip a) (by rw [isNan_flip a ha]; exact hn)
  have hx := xor_u64 a ha
  have rb := rk_bd (flip a) hf
  obtain ⟨rb1, rb2⟩ := rb
  have rb3 : 0 ≤ 18446744073709551615 - rk (flip a) := by omega
  have re : (rk a == 18446744073709551615 - rk (flip a)) = true := beq_iff_eq.2 (rk_flip a ha)
  clear hn
  go_enter Try.func8, Try.ntmps8
  go_wp2_with (first
    | (go_at_call 10; refine (awake_any _).mono ?_; rintro e w1 ⟨rfl, hb1⟩)
    | (go_at_call 13; refine (class_any _ (by assumption) _).mono ?_; rintro e w' ⟨rfl, hw⟩; rw [hw]; clear hw w')
    | (go_at_call 15; refine (rank_any _ (by assumption) _).mono ?_; rintro e w' ⟨rfl, hw⟩; rw [hw]; clear hw w'))
  go_ret
  exact ⟨rfl, by repeat (first | assumption | refine bstep ?_ (by assumption))⟩

set_option maxRecDepth 100000 in
set_option maxHeartbeats 2000000 in
theorem turns_num (a : Nat) (w : World) (ha : a < 18446744073709551616) (hn : isNan a = false) :
    Calls Try.prog 8 #[.float .f64 a] w fun e w' => e = .returned (.bool true) ∧ Below w.heap.size w w' := by
  have h22 := bits_run
  have h25 := from_run
  have hf := flip_lt a ha
  have c1 : (cls a == 1) = false := beq_eq_false_iff_ne.2 (by have := cls_ne a hn; omega)
  have c2 : (cls (flip a) == 1) = false := beq_eq_false_iff_ne.2 (by have := cls_ne (flip a) (by rw [isNan_flip a ha]; exact hn); omega)
  have c3 : (cls a + cls (flip a) == 9) = true := beq_iff_eq.2 (cls_flip a ha hn)
  obtain ⟨d1, d2⟩ := cls_bd a
  obtain ⟨d3, d4⟩ := cls_bd (flip a)
  have hx := xor_u64 a ha
  have rb := rk_bd (flip a) hf
  obtain ⟨rb1, rb2⟩ := rb
  have rb3 : 0 ≤ 18446744073709551615 - rk (flip a) := by omega
  have re : (rk a == 18446744073709551615 - rk (flip a)) = true := beq_iff_eq.2 (rk_flip a ha)
  clear hn
  go_enter Try.func8, Try.ntmps8
  go_wp2_with (first
    | (go_at_call 10; refine (awake_any _).mono ?_; rintro e w1 ⟨rfl, hb1⟩)
    | (go_at_call 13; refine (class_any _ (by assumption) _).mono ?_; rintro e w' ⟨rfl, hw⟩; rw [hw]; clear hw w')
    | (go_at_call 15; refine (rank_any _ (by assumption) _).mono ?_; rintro e w' ⟨rfl, hw⟩; rw [hw]; clear hw w'))
  go_ret
  exact ⟨rfl, by repeat (first | assumption | refine bstep ?_ (by assumption))⟩

theorem walk_FnumTurns (a : Nat) (w : World) (wa : (Lit.float .f64 a).wf = true) :
    Calls Try.prog 8 #[.float .f64 a] w fun e w' => e = .returned (.bool true) ∧ Below w.heap.size w w' := by
  cases h : isNan a
  · exact turns_num a w (float_lt wa) h
  · exact turns_nan a w (float_lt wa) h

theorem neg_flip (a : Nat) (h : a < 18446744073709551616) (w : World) : (Op.unary UnOp.neg (.float .f64 a)).run Try.prog w = .ok (.float .f64 (flip a)) w := by
  have e : Op.negFloat FloatKind.f64 a = flip a := xor_flip a h
  show Sem.run Try.prog (pure (Value.float .f64 (Op.negFloat .f64 a))) w = _
  rw [e]; rfl

set_option maxRecDepth 100000 in
set_option maxHeartbeats 2000000 in
theorem mirror_no (a b : Nat) (w : World) (h : (FloatKind.f64.format.order a 0 == some .gt) = false ∨ ((FloatKind.f64.format.order a 0 == some .gt) = true ∧ (FloatKind.f64.format.order b a == some .gt) = false)) :
    Calls Try.prog 9 #[.float .f64 a, .float .f64 b] w fun e w' => e = .returned (.bool true) ∧ Below w.heap.size w w' := by
  rcases h with h1 | ⟨h1, h2⟩
  all_goals
    go_enter Try.func9, Try.ntmps9
    go_wp2_with (first
      | (go_at_call 10; refine (awake_any _).mono ?_; rintro e w1 ⟨rfl, hb1⟩))
    go_ret
    exact ⟨rfl, by repeat (first | assumption | refine bstep ?_ (by assumption))⟩

theorem gt_inv (a b : Nat) (ha : a < 18446744073709551616) (hb : b < 18446744073709551616) (h : FloatKind.f64.format.order a b = some .gt) : sv b < sv a := by
  rw [ord a b ha hb] at h
  by_cases hn : (isNan a || isNan b) = true
  · rw [if_pos hn] at h; cases h
  · rw [if_neg hn] at h
    unfold cmp3 at h
    by_cases h1 : sv a < sv b
    · rw [if_pos h1] at h; cases h
    · rw [if_neg h1] at h
      by_cases h2 : sv a = sv b
      · rw [if_pos h2] at h; cases h
      · omega
theorem less_of (a b : Nat) (ha : a < 18446744073709551616) (hb : b < 18446744073709551616) (h : sv a < sv b) : lessB a b = true := decide_eq_true (rk_mono a b ha hb h)
theorem keyless_of (a b : Nat) (ha : a < 18446744073709551616) (hb : b < 18446744073709551616) (h : sv a < sv b) : Op.bytesLess (keyB (rk a)).toList (keyB (rk b)).toList = true := by
  have h1 := rk_bd a ha
  have h2 := rk_bd b hb
  rw [keyB_lessL _ _ h1.1 h1.2 h2.1 h2.2]; exact decide_eq_true (rk_mono a b ha hb h)

set_option maxRecDepth 100000 in
set_option maxHeartbeats 2000000 in
theorem mirror_yes (a b : Nat) (w : World) (ha : a < 18446744073709551616) (hb : b < 18446744073709551616) (h1 : FloatKind.f64.format.order a 0 = some .gt) (h2 : FloatKind.f64.format.order b a = some .gt) :
    Calls Try.prog 9 #[.float .f64 a, .float .f64 b] w fun e w' => e = .returned (.bool true) ∧ Below w.heap.size w w' := by
  have s1 := gt_inv a 0 ha (by omega) h1
  have s2 := gt_inv b a hb ha h2
  have fa := flip_lt a ha
  have fb := flip_lt b hb
  have sa := sv_flip a ha
  have sb := sv_flip b hb
  have s0 : sv 0 = 0 := by decide
  have z : 0 < 18446744073709551616 := by omega
  have na := neg_flip a ha
  have nb := neg_flip b hb
  have l1 := less_of a b ha hb s2
  have l2 := less_of (flip b) (flip a) fb fa (by omega)
  have l3 := less_of (flip a) b fa hb (by omega)
  have l4 := less_of (flip b) a fb ha (by omega)
  have l5 := less_of (flip a) 0 fa z (by omega)
  have l6 := less_of 0 a z ha (by omega)
  have l7 := keyless_of (flip b) (flip a) fb fa (by omega)
  have l8 := keyless_of a b ha hb s2
  clear s1 s2 sa sb s0
  go_enter Try.func9, Try.ntmps9
  go_wp2_with (first
    | (go_at_call 10; refine (awake_any _).mono ?_; rintro e w1 ⟨rfl, hb1⟩)
    | (go_at_call 17; refine (less_any _ _ (by assumption) (by assumption) _).mono ?_; rintro e w' ⟨rfl, hw⟩; rw [hw]; clear hw w')
    | (go_at_call 19; refine (key_any _ (by assumption) _).mono ?_; rintro e w1 ⟨rfl, hb1⟩))
  go_ret
  exact ⟨rfl, by repeat (first | assumption | refine bstep ?_ (by assumption))⟩

theorem walk_FnumMirror (a b : Nat) (w : World) (wa : (Lit.float .f64 a).wf = true) (wb : (Lit.float .f64 b).wf = true) :
    Calls Try.prog 9 #[.float .f64 a, .float .f64 b] w fun e w' => e = .returned (.bool true) ∧ Below w.heap.size w w' := by
  by_cases h1 : FloatKind.f64.format.order a 0 = some .gt
  · by_cases h2 : FloatKind.f64.format.order b a = some .gt
    · exact mirror_yes a b w (float_lt wa) (float_lt wb) h1 h2
    · exact mirror_no a b w (.inr ⟨beq_iff_eq.2 h1, beq_eq_false_iff_ne.2 h2⟩)
  · exact mirror_no a b w (.inl (beq_eq_false_iff_ne.2 h1))
end Go.Proofs.Ytlfpmmdekanjkaa
