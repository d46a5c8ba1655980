/- Walks of layer 1's statements: the edges. -/
import Derived.Test.YtlfpmmdekanjkaaLawc
namespace Go.Proofs.Ytlfpmmdekanjkaa
open Go.RowKit

def infN (n : Int) : Nat := if 0 ≤ n then 9218868437227405312 else 18442240474082181120
set_option maxRecDepth 100000 in
set_option maxHeartbeats 400000 in
theorem inf_any (n : Int) (w : World) : Calls Try.prog 23 #[.int .i64 n] w fun e w' => e = .returned (.float .f64 (infN n)) ∧ w' = w := by
  have h25 := from_run
  by_cases h : 0 ≤ n
  · have H : Hid (infN n = 9218868437227405312) := if_pos h
    go_enter Try.func23, Try.ntmps23
    go_wp2
    go_ret
    exact ⟨by rw [H.out]; rfl, rfl⟩
  · have H : Hid (infN n = 18442240474082181120) := if_neg h
    have h2 : n < 0 := by omega
    clear h
    go_enter Try.func23, Try.ntmps23
    go_wp2
    go_ret
    exact ⟨by rw [H.out]; rfl, rfl⟩

theorem nan_ends (a : Nat) (ha : a < 18446744073709551616) (h : isNan a = true) :
    (lessB a 18442240474082181120 = true ∧ lessB 9218868437227405312 a = false) ∨ (lessB a 18442240474082181120 = false ∧ lessB 9218868437227405312 a = true) := by
  have hr := of_decide_eq_true h
  unfold rung at hr
  have e1 : rk 18442240474082181120 = 4503599627370495 := by decide
  have e2 : rk 9218868437227405312 = 18442240474082181120 := by decide
  unfold lessB
  rw [e1, e2]
  unfold rk
  by_cases hl : a < 9223372036854775808
  · right; rw [if_pos hl]; exact ⟨decide_eq_false (by omega), decide_eq_true (by omega)⟩
  · left; rw [if_neg hl]; exact ⟨decide_eq_true (by omega), decide_eq_false (by omega)⟩

set_option maxRecDepth 100000 in
set_option maxHeartbeats 2000000 in
theorem edges_nan (a : Nat) (w : World) (ha : a < 18446744073709551616) (hn : isNan a = true) :
    Calls Try.prog 7 #[.float .f64 a] w fun e w' => e = .returned (.bool true) ∧ Below w.heap.size w w' := by
  have o := ord_nan a a ha ha hn
  have c := cls_nan a hn
  have i1 : infN 1 = 9218868437227405312 := by decide
  have i2 : infN (-1) = 18442240474082181120 := by decide
  have z1 : 18442240474082181120 < 18446744073709551616 := by omega
  have z2 : 9218868437227405312 < 18446744073709551616 := by omega
  rcases nan_ends a ha hn with ⟨l1, l2⟩ | ⟨l1, l2⟩
  all_goals
    clear hn
    go_enter Try.func7, Try.ntmps7
    go_wp2_with (first
      | (go_at_call 10; refine (awake_any _).mono ?_; rintro e w1 ⟨rfl, hb1⟩)
      | (go_at_call 23; refine (inf_any _ _).mono ?_; rintro e w' ⟨rfl, hw⟩; rw [hw]; clear hw w')
      | (go_at_call 24; refine (copysign_m0 _).mono ?_; rintro e w' ⟨rfl, hw⟩; rw [hw]; clear hw w')
      | (go_at_call 13; refine (class_any _ ha _).mono ?_; rintro e w' ⟨rfl, hw⟩; rw [hw]; clear hw w')
      | (go_at_call 17; refine (less_any _ _ (by assumption) (by assumption) _).mono ?_; rintro e w' ⟨rfl, hw⟩; rw [hw]; clear hw w'))
    go_ret
    exact ⟨rfl, by repeat (first | assumption | refine bstep ?_ (by assumption))⟩

/-- All that the edges' statement asks of a number, kind by kind. -/
def EdgeFacts (a : Nat) : Prop := ∃ (x0 xl xh : Ordering) (c : Int) (l1 l2 : Bool), FloatKind.f64.format.order a 0 = some x0 ∧ FloatKind.f64.format.order a 18442240474082181120 = some xl ∧ FloatKind.f64.format.order a 9218868437227405312 = some xh
    ∧ cls a = c ∧ lessB 18442240474082181120 a = l1 ∧ lessB a 9218868437227405312 = l2
    ∧ ((x0 = .lt ∧ xl = .eq ∧ xh = .lt ∧ c = 2 ∧ l1 = false ∧ l2 = true) ∨ (x0 = .lt ∧ xl = .gt ∧ xh = .lt ∧ c = 3 ∧ l1 = true ∧ l2 = true) ∨ (x0 = .eq ∧ xl = .gt ∧ xh = .lt ∧ c = 4 ∧ l1 = true ∧ l2 = true)
      ∨ (x0 = .eq ∧ xl = .gt ∧ xh = .lt ∧ c = 5 ∧ l1 = true ∧ l2 = true) ∨ (x0 = .gt ∧ xl = .gt ∧ xh = .lt ∧ c = 6 ∧ l1 = true ∧ l2 = true) ∨ (x0 = .gt ∧ xl = .gt ∧ xh = .eq ∧ c = 7 ∧ l1 = true ∧ l2 = false))

theorem edge_facts (a : Nat) (ha : a < 18446744073709551616) (hn : isNan a = false) : EdgeFacts a := by
  have z1 : 18442240474082181120 < 18446744073709551616 := by omega
  have z2 : 9218868437227405312 < 18446744073709551616 := by omega
  have z0 : 0 < 18446744073709551616 := by omega
  have n1 : isNan 18442240474082181120 = false := by decide
  have n2 : isNan 9218868437227405312 = false := by decide
  have n0 : isNan 0 = false := by decide
  have s1 : sv 18442240474082181120 = -9218868437227405312 := by decide
  have s2 : sv 9218868437227405312 = 9218868437227405312 := by decide
  have s0 : sv 0 = 0 := by decide
  have hr := rung_le a hn
  unfold rung at hr
  by_cases hl : a < 9223372036854775808
  · have e := sv_pos a hl
    have ol := ord_gt a _ ha z1 hn n1 (by omega)
    have ll := less_of 18442240474082181120 a z1 ha (by omega)
    by_cases h7 : a = 9218868437227405312
    · subst h7
      exact ⟨_, _, _, _, _, _, ord_gt _ _ ha z0 hn n0 (by omega), ol, ord_eq _ _ ha z2 hn n2 rfl, rfl, ll, rfl, by decide⟩
    · have oh := ord_lt a _ ha z2 hn n2 (by omega)
      have lh := less_of a 9218868437227405312 ha z2 (by omega)
      by_cases h5 : a = 0
      · subst h5
        exact ⟨_, _, _, _, _, _, ord_eq _ _ ha z0 hn n0 rfl, ol, oh, rfl, ll, lh, by decide⟩
      · exact ⟨_, _, _, _, _, _, ord_gt _ _ ha z0 hn n0 (by omega), ol, oh, by rw [cls_hi a hn hl, if_neg h7, if_neg h5], ll, lh, by decide⟩
  · have e := sv_neg a (by omega) ha
    have oh := ord_lt a _ ha z2 hn n2 (by omega)
    have lh := less_of a 9218868437227405312 ha z2 (by omega)
    by_cases h2 : a = 18442240474082181120
    · subst h2
      exact ⟨_, _, _, _, _, _, ord_lt _ _ ha z0 hn n0 (by omega), ord_eq _ _ ha z1 hn n1 rfl, oh, rfl, rfl, lh, by decide⟩
    · have ol := ord_gt a _ ha z1 hn n1 (by omega)
      have ll := less_of 18442240474082181120 a z1 ha (by omega)
      by_cases h4 : a = 9223372036854775808
      · subst h4
        exact ⟨_, _, _, _, _, _, ord_eq _ _ ha z0 hn n0 (by omega), ol, oh, rfl, ll, lh, by decide⟩
      · exact ⟨_, _, _, _, _, _, ord_lt _ _ ha z0 hn n0 (by omega), ol, oh, by rw [cls_lo a hn (by omega), if_neg h2, if_neg h4], ll, lh, by decide⟩

set_option maxRecDepth 100000 in
set_option maxHeartbeats 4000000 in
theorem edges_num (a : Nat) (w : World) (ha : a < 18446744073709551616) (hn : isNan a = false) :
    Calls Try.prog 7 #[.float .f64 a] w fun e w' => e = .returned (.bool true) ∧ Below w.heap.size w w' := by
  have o := ord_eq a a ha ha hn hn rfl
  have i1 : infN 1 = 9218868437227405312 := by decide
  have i2 : infN (-1) = 18442240474082181120 := by decide
  have z1 : 18442240474082181120 < 18446744073709551616 := by omega
  have z2 : 9218868437227405312 < 18446744073709551616 := by omega
  have z3 : 9223372036854775808 < 18446744073709551616 := by omega
  have z0 : 0 < 18446744073709551616 := by omega
  have r1 : (rk 0 == rk 9223372036854775808 + 1) = true := by decide
  have r2 : 0 ≤ rk 9223372036854775808 := by decide
  have r3 : rk 9223372036854775808 ≤ 9223372036854775807 := by decide
  have l0 : lessB 9223372036854775808 0 = true := by decide
  obtain ⟨x0, xl, xh, c, l1, l2, f1, f2, f3, f4, f5, f6, hh⟩ := edge_facts a ha hn
  clear hn
  rcases hh with ⟨rfl, rfl, rfl, rfl, rfl, rfl⟩ | ⟨rfl, rfl, rfl, rfl, rfl, rfl⟩ | ⟨rfl, rfl, rfl, rfl, rfl, rfl⟩ | ⟨rfl, rfl, rfl, rfl, rfl, rfl⟩ | ⟨rfl, rfl, rfl, rfl, rfl, rfl⟩ | ⟨rfl, rfl, rfl, rfl, rfl, rfl⟩
  all_goals
    go_enter Try.func7, Try.ntmps7
    go_wp2_with (first
      | (go_at_call 10; refine (awake_any _).mono ?_; rintro e w1 ⟨rfl, hb1⟩)
      | (go_at_call 23; refine (inf_any _ _).mono ?_; rintro e w' ⟨rfl, hw⟩; rw [hw]; clear hw w')
      | (go_at_call 24; refine (copysign_m0 _).mono ?_; rintro e w' ⟨rfl, hw⟩; rw [hw]; clear hw w')
      | (go_at_call 13; refine (class_any _ ha _).mono ?_; rintro e w' ⟨rfl, hw⟩; rw [hw]; clear hw w')
      | (go_at_call 15; refine (rank_any _ (by assumption) _).mono ?_; rintro e w' ⟨rfl, hw⟩; rw [hw]; clear hw w')
      | (go_at_call 17; refine (less_any _ _ (by assumption) (by assumption) _).mono ?_; rintro e w' ⟨rfl, hw⟩; rw [hw]; clear hw w'))
    go_ret
    exact ⟨rfl, by repeat (first | assumption | refine bstep ?_ (by assumption))⟩

theorem walk_FnumEdges (a : Nat) (w : World) (wa : (Lit.float .f64 a).wf = true) :
    Calls Try.prog 7 #[.float .f64 a] w fun e w' => e = .returned (.bool true) ∧ Below w.heap.size w w' := by
  cases h : isNan a
  · exact edges_num a w (float_lt wa) h
  · exact edges_nan a w (float_lt wa) h
end Go.Proofs.Ytlfpmmdekanjkaa
