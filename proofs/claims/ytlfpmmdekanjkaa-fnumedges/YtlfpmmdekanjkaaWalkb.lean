/- Walks of layer 1: classes. -/
import Derived.Test.YtlfpmmdekanjkaaWalka
namespace Go.Proofs.Ytlfpmmdekanjkaa
open Go.RowKit

theorem cls_nan (b : Nat) (hn : isNan b = true) : cls b = 1 := by unfold cls; rw [hn]; rfl
theorem cls_hi (b : Nat) (hn : isNan b = false) (h : b < 9223372036854775808) : cls b = if b = 9218868437227405312 then 7 else if b = 0 then 5 else 6 := by
  unfold cls; rw [hn]; simp only [Bool.false_eq_true, if_false]; rw [if_pos h]
theorem cls_lo (b : Nat) (hn : isNan b = false) (h : 9223372036854775808 ≤ b) : cls b = if b = 18442240474082181120 then 2 else if b = 9223372036854775808 then 4 else 3 := by
  unfold cls; rw [hn]; simp only [Bool.false_eq_true, if_false]; rw [if_neg (by omega)]
theorem rung_le (b : Nat) (hn : isNan b = false) : rung b ≤ 9218868437227405312 := by
  have hr := of_decide_eq_false hn
  omega

theorem cls_cases (b : Nat) (hb : b < 18446744073709551616) :
    isNan b = true ∨ (isNan b = false ∧ (b = 18442240474082181120 ∨ (9223372036854775808 < b ∧ b < 18442240474082181119) ∨ b = 18442240474082181119
      ∨ b = 9223372036854775808 ∨ b = 0 ∨ (0 < b ∧ b < 9218868437227405311) ∨ b = 9218868437227405311 ∨ b = 9218868437227405312)) := by
  cases hn : isNan b
  · right
    have hr := rung_le b hn
    unfold rung at hr
    refine ⟨rfl, ?_⟩
    omega
  · left; rfl

theorem ord (a b : Nat) (ha : a < 18446744073709551616) (hb : b < 18446744073709551616) :
    FloatKind.f64.format.order a b = if isNan a || isNan b then none else some (cmp3 (sv a) (sv b)) := order_all a b ha hb

theorem ord_nan (a b : Nat) (ha : a < 18446744073709551616) (hb : b < 18446744073709551616) (h : isNan a = true) : FloatKind.f64.format.order a b = none := by
  rw [ord a b ha hb, h]; rfl
theorem ord_num (a b : Nat) (ha : a < 18446744073709551616) (hb : b < 18446744073709551616) (h : isNan a = false) (h' : isNan b = false) : FloatKind.f64.format.order a b = some (cmp3 (sv a) (sv b)) := by
  rw [ord a b ha hb, h, h']; rfl
theorem ord_lt (a b : Nat) (ha : a < 18446744073709551616) (hb : b < 18446744073709551616) (h : isNan a = false) (h' : isNan b = false) (hs : sv a < sv b) : FloatKind.f64.format.order a b = some .lt := by
  rw [ord_num a b ha hb h h']; unfold cmp3; rw [if_pos hs]
theorem ord_eq (a b : Nat) (ha : a < 18446744073709551616) (hb : b < 18446744073709551616) (h : isNan a = false) (h' : isNan b = false) (hs : sv a = sv b) : FloatKind.f64.format.order a b = some .eq := by
  rw [ord_num a b ha hb h h']; unfold cmp3; rw [if_neg (by omega), if_pos hs]
theorem ord_gt (a b : Nat) (ha : a < 18446744073709551616) (hb : b < 18446744073709551616) (h : isNan a = false) (h' : isNan b = false) (hs : sv b < sv a) : FloatKind.f64.format.order a b = some .gt := by
  rw [ord_num a b ha hb h h']; unfold cmp3; rw [if_neg (by omega), if_neg (by omega)]

theorem sv_pos (b : Nat) (h : b < 9223372036854775808) : sv b = b := by
  unfold sv isNeg rung; rw [if_neg (by simp; omega)]; omega
theorem sv_neg (b : Nat) (h : 9223372036854775808 ≤ b) (hb : b < 18446744073709551616) : sv b = 9223372036854775808 - b := by
  unfold sv isNeg rung; rw [if_pos (by simp; omega)]; omega

set_option maxRecDepth 100000 in
set_option maxHeartbeats 400000 in
theorem signbit_lo (w : World) : Calls Try.prog 27 #[.float .f64 0] w fun e w' => e = .returned (.bool false) ∧ w' = w := by
  have h22 := bits_run
  go_enter Try.func27, Try.ntmps27
  go_wp2
  go_ret
  exact ⟨rfl, rfl⟩
set_option maxRecDepth 100000 in
set_option maxHeartbeats 400000 in
theorem signbit_hi (w : World) : Calls Try.prog 27 #[.float .f64 9223372036854775808] w fun e w' => e = .returned (.bool true) ∧ w' = w := by
  have h22 := bits_run
  go_enter Try.func27, Try.ntmps27
  go_wp2
  go_ret
  exact ⟨congrArg (fun x => Ending.returned (.bool x)) (by kernel_rfl), rfl⟩

/-- Class, once the three comparisons are known, and none of them is with 0. -/
def clsOf (o1 o2 o3 : Option Ordering) : Int :=
  if o1 == some .gt then 7 else if o2 == some .gt then 6 else if o3 == some .gt || o3 == some .eq then 3 else if o3 == some .lt then 2 else 1

set_option maxRecDepth 100000 in
set_option maxHeartbeats 400000 in
theorem class_o (b : Nat) (x1 x2 x3 : Option Ordering) (o1 : FloatKind.f64.format.order b 9218868437227405311 = x1) (o2 : FloatKind.f64.format.order b 0 = x2) (o3 : FloatKind.f64.format.order b 18442240474082181119 = x3) (h2 : x2 ≠ some .eq) (w : World) :
    Calls Try.prog 13 #[.float .f64 b] w fun e w' => e = .returned (.int .i64 (clsOf x1 x2 x3)) ∧ w' = w := by
  rcases x1 with _ | x1 <;> rcases x2 with _ | x2 <;> rcases x3 with _ | x3
  all_goals (try cases x1)
  all_goals (try cases x2)
  all_goals (try cases x3)
  all_goals first | exact absurd rfl h2 | clear h2
  all_goals
    go_enter Try.func13, Try.ntmps13
    go_wp2
    go_ret
    exact ⟨rfl, rfl⟩

set_option maxRecDepth 100000 in
set_option maxHeartbeats 400000 in
theorem class_0 (w : World) : Calls Try.prog 13 #[.float .f64 0] w fun e w' => e = .returned (.int .i64 5) ∧ w' = w := by
  have o1 := ord_lt 0 9218868437227405311 (by omega) (by omega) (by decide) (by decide) (by decide)
  have o2 := ord_eq 0 0 (by omega) (by omega) (by decide) (by decide) (by decide)
  go_enter Try.func13, Try.ntmps13
  go_wp2_with (go_at_call 27; refine (signbit_lo _).mono ?_; rintro e w' ⟨rfl, rfl⟩)
  go_ret
  exact ⟨rfl, rfl⟩
set_option maxRecDepth 100000 in
set_option maxHeartbeats 400000 in
theorem class_m0 (w : World) : Calls Try.prog 13 #[.float .f64 9223372036854775808] w fun e w' => e = .returned (.int .i64 4) ∧ w' = w := by
  have o1 := ord_lt 9223372036854775808 9218868437227405311 (by omega) (by omega) (by decide) (by decide) (by decide)
  have o2 := ord_eq 9223372036854775808 0 (by omega) (by omega) (by decide) (by decide) (by decide)
  go_enter Try.func13, Try.ntmps13
  go_wp2_with (go_at_call 27; refine (signbit_hi _).mono ?_; rintro e w' ⟨rfl, rfl⟩)
  go_ret
  exact ⟨rfl, rfl⟩

theorem class_any (b : Nat) (hb : b < 18446744073709551616) (w : World) :
    Calls Try.prog 13 #[.float .f64 b] w fun e w' => e = .returned (.int .i64 (cls b)) ∧ w' = w := by
  rcases cls_cases b hb with h | ⟨hn, h | ⟨h1, h2⟩ | h | h | h | ⟨h1, h2⟩ | h | h⟩
  · rw [cls_nan b h]
    exact class_o b _ _ _ (ord_nan b 9218868437227405311 hb (by omega) h) (ord_nan b 0 hb (by omega) h) (ord_nan b 18442240474082181119 hb (by omega) h) (by simp) w
  · subst h
    exact class_o _ _ _ _ (ord_lt _ 9218868437227405311 hb (by omega) hn (by decide) (by decide)) (ord_lt _ 0 hb (by omega) hn (by decide) (by decide)) (ord_lt _ 18442240474082181119 hb (by omega) hn (by decide) (by decide)) (by simp) w
  · rw [cls_lo b hn (by omega), if_neg (by omega), if_neg (by omega)]
    have e := sv_neg b (by omega) hb
    have e1 : sv 9218868437227405311 = 9218868437227405311 := by decide
    have e2 : sv 0 = 0 := by decide
    have e3 : sv 18442240474082181119 = -9218868437227405311 := by decide
    exact class_o b _ _ _ (ord_lt b 9218868437227405311 hb (by omega) hn (by decide) (by omega)) (ord_lt b 0 hb (by omega) hn (by decide) (by omega)) (ord_gt b 18442240474082181119 hb (by omega) hn (by decide) (by omega)) (by simp) w
  · subst h
    exact class_o _ _ _ _ (ord_lt _ 9218868437227405311 hb (by omega) hn (by decide) (by decide)) (ord_lt _ 0 hb (by omega) hn (by decide) (by decide)) (ord_eq _ 18442240474082181119 hb (by omega) hn (by decide) (by decide)) (by simp) w
  · subst h; exact class_m0 w
  · subst h; exact class_0 w
  · rw [cls_hi b hn (by omega), if_neg (by omega), if_neg (by omega)]
    have e := sv_pos b (by omega)
    have e1 : sv 9218868437227405311 = 9218868437227405311 := by decide
    have e2 : sv 0 = 0 := by decide
    have e3 : sv 18442240474082181119 = -9218868437227405311 := by decide
    exact class_o b _ _ _ (ord_lt b 9218868437227405311 hb (by omega) hn (by decide) (by omega)) (ord_gt b 0 hb (by omega) hn (by decide) (by omega)) (ord_gt b 18442240474082181119 hb (by omega) hn (by decide) (by omega)) (by simp) w
  · subst h
    exact class_o _ _ _ _ (ord_eq _ 9218868437227405311 hb (by omega) hn (by decide) (by decide)) (ord_gt _ 0 hb (by omega) hn (by decide) (by decide)) (ord_gt _ 18442240474082181119 hb (by omega) hn (by decide) (by decide)) (by simp) w
  · subst h
    exact class_o _ _ _ _ (ord_gt _ 9218868437227405311 hb (by omega) hn (by decide) (by decide)) (ord_gt _ 0 hb (by omega) hn (by decide) (by decide)) (ord_gt _ 18442240474082181119 hb (by omega) hn (by decide) (by decide)) (by simp) w
end Go.Proofs.Ytlfpmmdekanjkaa
