/- Walks of layer 1: the calls at the head of all statements. -/
import Derived.Test.YtlfpmmdekanjkaaWalkc
import Derived.Test.YtlfpmmdekanjkaaWalkf
namespace Go.Proofs.Ytlfpmmdekanjkaa
open Go.RowKit

def backN (s : ByteArray) : Nat := if s.size = 8 then bk (acc s.data.toList) else 0
def backB (s : ByteArray) : Bool := decide (s.size = 8)
theorem back_any (s : ByteArray) (w : World) : Calls Try.prog 11 #[.string s] w fun e w' => e = .returned (.tuple #[.float .f64 (backN s), .bool (backB s)]) ∧ w' = w := by
  unfold backN backB
  by_cases h : s.size = 8
  · rw [if_pos h, decide_eq_true h]; exact back_8 s h w
  · rw [if_neg h, decide_eq_false h]; exact back_no s h w
theorem backR_any (s : ByteArray) (w : World) : Calls Try.prog 12 #[.string s] w fun e w' => e = .returned (.tuple #[.float .f64 (backN s), .bool (backB s)]) ∧ w' = w := by
  unfold backN backB
  by_cases h : s.size = 8
  · rw [if_pos h, decide_eq_true h]; exact backR_8 s h w
  · rw [if_neg h, decide_eq_false h]; exact backR_no s h w

set_option maxRecDepth 100000 in
set_option maxHeartbeats 1000000 in
theorem awake_any (w : World) : Calls Try.prog 10 #[] w fun e w' => e = .returned (.bool true) ∧ Below w.heap.size w w' := by
  have b1 : backN ⟨#[128, 0, 0, 0, 0, 0, 0, 0]⟩ = 0 := by decide
  have b2 : backB ⟨#[128, 0, 0, 0, 0, 0, 0, 0]⟩ = true := by decide
  have b3 : backB ⟨#[97]⟩ = false := by decide
  have c1 : cls 0 = 5 := by decide
  have c2 : cls 13832806255468478464 = 3 := by decide
  have r1 : (rk 0 == 9223372036854775808) = true := by decide
  have l1 : lessB 13830554455654793216 4607182418800017408 = true := by decide
  have k1 : (keyB (rk 0)) = ⟨#[128, 0, 0, 0, 0, 0, 0, 0]⟩ := by decide
  have o1 := ord_eq 0 0 (by omega) (by omega) (by decide) (by decide) (by decide)
  go_enter Try.func10, Try.ntmps10
  go_wp2_with (first
    | (go_at_call 11; refine (back_any _ _).mono ?_; rintro e w' ⟨rfl, hw⟩; rw [hw]; clear hw w')
    | (go_at_call 13; refine (class_any _ (by omega) _).mono ?_; rintro e w' ⟨rfl, hw⟩; rw [hw]; clear hw w')
    | (go_at_call 15; refine (rank_any _ (by omega) _).mono ?_; rintro e w' ⟨rfl, hw⟩; rw [hw]; clear hw w')
    | (go_at_call 17; refine (less_any _ _ (by omega) (by omega) _).mono ?_; rintro e w' ⟨rfl, hw⟩; rw [hw]; clear hw w')
    | (go_at_call 19; refine (key_any _ (by omega) _).mono ?_; rintro e w' ⟨rfl, hbel⟩))
  go_ret
  exact ⟨rfl, by assumption⟩
end Go.Proofs.Ytlfpmmdekanjkaa
