/- Walks of layer 1: the document's own classes; the edges. -/
import Derived.Test.YtlfpmmdekanjkaaWalkb
namespace Go.Proofs.Ytlfpmmdekanjkaa
open Go.RowKit

/-- The document's Class, once the three comparisons are known, and f is below or above 0. -/
def clsRof (o1 o2 o3 : Option Ordering) : Int :=
  if o2 == some .lt && o3 == some .lt then 2 else if o2 == some .lt then 3 else if o1 == some .gt then 7 else 6

set_option maxRecDepth 100000 in
set_option maxHeartbeats 400000 in
theorem classR_o (b : Nat) (x1 x2 x3 : Ordering) (o1 : FloatKind.f64.format.order b 9218868437227405311 = some x1) (o2 : FloatKind.f64.format.order b 0 = some x2) (o3 : FloatKind.f64.format.order b 18442240474082181119 = some x3) (h2 : x2 ≠ .eq) (w : World) :
    Calls Try.prog 14 #[.float .f64 b] w fun e w' => e = .returned (.int .i64 (clsRof (some x1) (some x2) (some x3))) ∧ w' = w := by
  have h22 := bits_run
  cases x1 <;> cases x2 <;> cases x3
  all_goals first | exact absurd rfl h2 | clear h2
  all_goals
    go_enter Try.func14, Try.ntmps14
    go_wp2
    go_ret
    exact ⟨rfl, rfl⟩

set_option maxRecDepth 100000 in
set_option maxHeartbeats 400000 in
theorem classR_nan (b : Nat) (o1 : FloatKind.f64.format.order b 9218868437227405311 = none) (o2 : FloatKind.f64.format.order b 0 = none) (e1 : ((b : Int) == 0) = false) (e2 : ((b : Int) == 9223372036854775808) = false) (w : World) :
    Calls Try.prog 14 #[.float .f64 b] w fun e w' => e = .returned (.int .i64 1) ∧ w' = w := by
  have h22 := bits_run
  go_enter Try.func14, Try.ntmps14
  go_wp2
  go_ret
  exact ⟨rfl, rfl⟩

set_option maxRecDepth 100000 in
set_option maxHeartbeats 400000 in
theorem classR_0 (w : World) : Calls Try.prog 14 #[.float .f64 0] w fun e w' => e = .returned (.int .i64 5) ∧ w' = w := by
  have h22 := bits_run
  have o1 := ord_lt 0 9218868437227405311 (by omega) (by omega) (by decide) (by decide) (by decide)
  have o2 := ord_eq 0 0 (by omega) (by omega) (by decide) (by decide) (by decide)
  go_enter Try.func14, Try.ntmps14
  go_wp2
  go_ret
  exact ⟨rfl, rfl⟩
set_option maxRecDepth 100000 in
set_option maxHeartbeats 400000 in
theorem classR_m0 (w : World) : Calls Try.prog 14 #[.float .f64 9223372036854775808] w fun e w' => e = .returned (.int .i64 4) ∧ w' = w := by
  have h22 := bits_run
  have o1 := ord_lt 9223372036854775808 9218868437227405311 (by omega) (by omega) (by decide) (by decide) (by decide)
  have o2 := ord_eq 9223372036854775808 0 (by omega) (by omega) (by decide) (by decide) (by decide)
  go_enter Try.func14, Try.ntmps14
  go_wp2
  go_ret
  exact ⟨rfl, rfl⟩

theorem classR_any (b : Nat) (hb : b < 18446744073709551616) (w : World) :
    Calls Try.prog 14 #[.float .f64 b] w fun e w' => e = .returned (.int .i64 (cls b)) ∧ w' = w := by
  rcases cls_cases b hb with h | ⟨hn, h | ⟨h1, h2⟩ | h | h | h | ⟨h1, h2⟩ | h | h⟩
  · rw [cls_nan b h]
    have hr := of_decide_eq_true h
    unfold rung at hr
    exact classR_nan b (ord_nan b 9218868437227405311 hb (by omega) h) (ord_nan b 0 hb (by omega) h) (beq_eq_false_iff_ne.2 (by omega)) (beq_eq_false_iff_ne.2 (by omega)) w
  · subst h
    exact classR_o _ _ _ _ (ord_lt _ 9218868437227405311 hb (by omega) hn (by decide) (by decide)) (ord_lt _ 0 hb (by omega) hn (by decide) (by decide)) (ord_lt _ 18442240474082181119 hb (by omega) hn (by decide) (by decide)) (by simp) w
  · rw [cls_lo b hn (by omega), if_neg (by omega), if_neg (by omega)]
    have e := sv_neg b (by omega) hb
    have e1 : sv 9218868437227405311 = 9218868437227405311 := by decide
    have e2 : sv 0 = 0 := by decide
    have e3 : sv 18442240474082181119 = -9218868437227405311 := by decide
    exact classR_o b _ _ _ (ord_lt b 9218868437227405311 hb (by omega) hn (by decide) (by omega)) (ord_lt b 0 hb (by omega) hn (by decide) (by omega)) (ord_gt b 18442240474082181119 hb (by omega) hn (by decide) (by omega)) (by simp) w
  · subst h
    exact classR_o _ _ _ _ (ord_lt _ 9218868437227405311 hb (by omega) hn (by decide) (by decide)) (ord_lt _ 0 hb (by omega) hn (by decide) (by decide)) (ord_eq _ 18442240474082181119 hb (by omega) hn (by decide) (by decide)) (by simp) w
  · subst h; exact classR_m0 w
  · subst h; exact classR_0 w
  · rw [cls_hi b hn (by omega), if_neg (by omega), if_neg (by omega)]
    have e := sv_pos b (by omega)
    have e1 : sv 9218868437227405311 = 9218868437227405311 := by decide
    have e2 : sv 0 = 0 := by decide
    have e3 : sv 18442240474082181119 = -9218868437227405311 := by decide
    exact classR_o b _ _ _ (ord_lt b 9218868437227405311 hb (by omega) hn (by decide) (by omega)) (ord_gt b 0 hb (by omega) hn (by decide) (by omega)) (ord_gt b 18442240474082181119 hb (by omega) hn (by decide) (by omega)) (by simp) w
  · subst h
    exact classR_o _ _ _ _ (ord_eq _ 9218868437227405311 hb (by omega) hn (by decide) (by decide)) (ord_gt _ 0 hb (by omega) hn (by decide) (by decide)) (ord_gt _ 18442240474082181119 hb (by omega) hn (by decide) (by decide)) (by simp) w
  · subst h
    exact classR_o _ _ _ _ (ord_gt _ 9218868437227405311 hb (by omega) hn (by decide) (by decide)) (ord_gt _ 0 hb (by omega) hn (by decide) (by decide)) (ord_gt _ 18442240474082181119 hb (by omega) hn (by decide) (by decide)) (by simp) w

set_option maxRecDepth 100000 in
set_option maxHeartbeats 400000 in
theorem same_any (a b : Nat) (w : World) : Calls Try.prog 21 #[.float .f64 a, .float .f64 b] w fun e w' => e = .returned (.bool ((a : Int) == (b : Int))) ∧ w' = w := by
  have h22 := bits_run
  go_enter Try.func21, Try.ntmps21
  go_wp2
  go_ret
  exact ⟨rfl, rfl⟩

set_option maxRecDepth 100000 in
set_option maxHeartbeats 400000 in
theorem inf_hi (w : World) : Calls Try.prog 23 #[.int .i64 1] w fun e w' => e = .returned (.float .f64 9218868437227405312) ∧ w' = w := by
  have h25 := from_run
  go_enter Try.func23, Try.ntmps23
  go_wp2
  go_ret
  exact ⟨rfl, rfl⟩
set_option maxRecDepth 100000 in
set_option maxHeartbeats 400000 in
theorem inf_lo (w : World) : Calls Try.prog 23 #[.int .i64 (-1)] w fun e w' => e = .returned (.float .f64 18442240474082181120) ∧ w' = w := by
  have h25 := from_run
  go_enter Try.func23, Try.ntmps23
  go_wp2
  go_ret
  exact ⟨rfl, rfl⟩
set_option maxRecDepth 100000 in
set_option maxHeartbeats 400000 in
theorem copysign_m0 (w : World) : Calls Try.prog 24 #[.float .f64 0, .float .f64 13830554455654793216] w fun e w' => e = .returned (.float .f64 9223372036854775808) ∧ w' = w := by
  have h22 := bits_run
  have h25 := from_run
  go_enter Try.func24, Try.ntmps24
  go_wp2
  go_ret
  exact ⟨rfl, rfl⟩
end Go.Proofs.Ytlfpmmdekanjkaa
