/- Walks of layer 1's leaf functions: ranks, their way back, classes. -/
import Derived.Test.YtlfpmmdekanjkaaRows
import Derived.Test.YtlfpmmdekanjkaaNums
import Derived.WalkKit
import Derived.WalkSpells
import Derived.WalkLawsBesides
import Derived.LoopN
namespace Go.Proofs.Ytlfpmmdekanjkaa
open Go.RowKit

theorem bits_run (b : Nat) (w : World) : (callFunc 22 #[.float .f64 b]).run Try.prog w = .ok (.value (.int .u64 b)) w := by
  rw [run_callFunc_extern (e := Extern.MathFloatBits.float64bits) Try.func22 (by kernel_rfl) (by kernel_rfl) (by kernel_rfl) (by kernel_rfl)]
  rfl
theorem from_run (n : Int) (w : World) : (callFunc 25 #[.int .u64 n]).run Try.prog w = .ok (.value (.float .f64 n.toNat)) w := by
  rw [run_callFunc_extern (e := Extern.MathFloatBits.float64frombits) Try.func25 (by kernel_rfl) (by kernel_rfl) (by kernel_rfl) (by kernel_rfl)]
  rfl
theorem ret_int {k : IntKind} {a b : Int} (h : a = b) : Ending.returned (.int k a) = .returned (.int k b) := by rw [h]

set_option maxRecDepth 100000 in
set_option maxHeartbeats 400000 in
theorem rank_any (b : Nat) (hb : b < 18446744073709551616) (w : World) :
    Calls Try.prog 15 #[.float .f64 b] w fun e w' => e = .returned (.int .u64 (rk b)) ∧ w' = w := by
  have h22 := bits_run
  by_cases h : (b : Int) < 9223372036854775808
  · go_enter Try.func15, Try.ntmps15
    go_wp2
    go_ret
    exact ⟨ret_int (by unfold rk; rw [if_pos (by omega)]), rfl⟩
  · have h1 : 0 ≤ 18446744073709551615 - (b : Int) := by omega
    have h2 : 9223372036854775808 ≤ (b : Int) := by omega
    go_enter Try.func15, Try.ntmps15
    go_wp2
    go_ret
    exact ⟨ret_int (by unfold rk; rw [if_neg (by omega)]), rfl⟩

set_option maxRecDepth 100000 in
set_option maxHeartbeats 400000 in
theorem rankR_any (b : Nat) (hb : b < 18446744073709551616) (w : World) :
    Calls Try.prog 16 #[.float .f64 b] w fun e w' => e = .returned (.int .u64 (rk b)) ∧ w' = w := by
  have h22 := bits_run
  by_cases h : (b : Int) < 9223372036854775808
  · go_enter Try.func16, Try.ntmps16
    go_wp2
    go_ret
    exact ⟨ret_int (by unfold rk; rw [if_pos (by omega)]), rfl⟩
  · have h1 : 0 ≤ 18446744073709551615 - (b : Int) := by omega
    have h2 : 9223372036854775808 ≤ (b : Int) := by omega
    go_enter Try.func16, Try.ntmps16
    go_wp2
    go_ret
    exact ⟨ret_int (by unfold rk; rw [if_neg (by omega)]), rfl⟩

def lessB (a b : Nat) : Bool := decide (rk a < rk b)

set_option maxRecDepth 100000 in
set_option maxHeartbeats 400000 in
theorem less_any (a b : Nat) (ha : a < 18446744073709551616) (hb : b < 18446744073709551616) (w : World) :
    Calls Try.prog 17 #[.float .f64 a, .float .f64 b] w fun e w' => e = .returned (.bool (lessB a b)) ∧ w' = w := by
  go_enter Try.func17, Try.ntmps17
  go_wp2_with (first | (go_at_call 15; refine (rank_any _ ?_ _).mono ?_; assumption; rintro e w' ⟨rfl, rfl⟩))
  go_ret
  exact ⟨rfl, rfl⟩

set_option maxRecDepth 100000 in
set_option maxHeartbeats 400000 in
theorem lessR_any (a b : Nat) (ha : a < 18446744073709551616) (hb : b < 18446744073709551616) (w : World) :
    Calls Try.prog 18 #[.float .f64 a, .float .f64 b] w fun e w' => e = .returned (.bool (lessB a b)) ∧ w' = w := by
  go_enter Try.func18, Try.ntmps18
  go_wp2_with (first | (go_at_call 16; refine (rankR_any _ ?_ _).mono ?_; assumption; rintro e w' ⟨rfl, rfl⟩))
  go_ret
  exact ⟨rfl, rfl⟩

set_option maxRecDepth 100000 in
set_option maxHeartbeats 400000 in
theorem bitsOf_any (n : Int) (h0 : 0 ≤ n) (hb : n < 18446744073709551616) (w : World) :
    Calls Try.prog 26 #[.int .u64 n] w fun e w' => e = .returned (.int .u64 (bk n : Nat)) ∧ w' = w := by
  by_cases h : n < 9223372036854775808
  · have h1 : 0 ≤ 18446744073709551615 - n := by omega
    go_enter Try.func26, Try.ntmps26
    go_wp2
    go_ret
    exact ⟨ret_int (by unfold bk; rw [if_pos (by omega)]; omega), rfl⟩
  · have h1 : 0 ≤ n - 9223372036854775808 := by omega
    have h2 : 9223372036854775808 ≤ n := by omega
    go_enter Try.func26, Try.ntmps26
    go_wp2
    go_ret
    exact ⟨ret_int (by unfold bk; rw [if_neg (by omega)]; omega), rfl⟩
end Go.Proofs.Ytlfpmmdekanjkaa
