/- Walks of layer 1's statements: the document's answers, the edges. -/
import Derived.Test.YtlfpmmdekanjkaaLawc
namespace Go.Proofs.Ytlfpmmdekanjkaa
open Go.RowKit

set_option maxRecDepth 100000 in
set_option maxHeartbeats 2000000 in
theorem walk_FnumTells (a b : Nat) (s : ByteArray) (w : World) (wa : (Lit.float .f64 a).wf = true) (wb : (Lit.float .f64 b).wf = true) (ws : s.size ≤ maxLen) :
    Calls Try.prog 3 #[.float .f64 a, .float .f64 b, .string s] w fun e w' => e = .returned (.bool true) ∧ Below w.heap.size w w' := by
  have ha := float_lt wa
  have hb := float_lt wb
  unfold maxLen at ws
  clear wa wb
  by_cases h : (100 : Int) < (s.size : Int)
  · go_enter Try.func3, Try.ntmps3
    go_wp2_with (first
      | (go_at_call 10; refine (awake_any _).mono ?_; rintro e w1 ⟨rfl, hb1⟩))
    go_ret
    exact ⟨rfl, by repeat (first | assumption | refine bstep ?_ (by assumption))⟩
  · have h2 : (s.size : Int) ≤ 100 := by omega
    clear h
    go_enter Try.func3, Try.ntmps3
    go_wp2_with (first
      | (go_at_call 10; refine (awake_any _).mono ?_; rintro e w1 ⟨rfl, hb1⟩)
      | (go_at_call 11; refine (back_any _ _).mono ?_; rintro e w' ⟨rfl, hw⟩; rw [hw]; clear hw w')
      | (go_at_call 12; refine (backR_any _ _).mono ?_; rintro e w' ⟨rfl, hw⟩; rw [hw]; clear hw w')
      | (go_at_call 13; refine (class_any _ ha _).mono ?_; rintro e w' ⟨rfl, hw⟩; rw [hw]; clear hw w')
      | (go_at_call 14; refine (classR_any _ ha _).mono ?_; rintro e w' ⟨rfl, hw⟩; rw [hw]; clear hw w')
      | (go_at_call 15; refine (rank_any _ ha _).mono ?_; rintro e w' ⟨rfl, hw⟩; rw [hw]; clear hw w')
      | (go_at_call 16; refine (rankR_any _ ha _).mono ?_; rintro e w' ⟨rfl, hw⟩; rw [hw]; clear hw w')
      | (go_at_call 17; refine (less_any _ _ ha hb _).mono ?_; rintro e w' ⟨rfl, hw⟩; rw [hw]; clear hw w')
      | (go_at_call 18; refine (lessR_any _ _ ha hb _).mono ?_; rintro e w' ⟨rfl, hw⟩; rw [hw]; clear hw w')
      | (go_at_call 19; refine (key_any _ ha _).mono ?_; rintro e w1 ⟨rfl, hb1⟩)
      | (go_at_call 20; refine (keyR_any _ ha _).mono ?_; rintro e w1 ⟨rfl, hb1⟩)
      | (go_at_call 21; refine (same_any _ _ _).mono ?_; rintro e w' ⟨rfl, hw⟩; rw [hw]; clear hw w'))
    go_ret
    exact ⟨rfl, by repeat (first | assumption | refine bstep ?_ (by assumption))⟩

end Go.Proofs.Ytlfpmmdekanjkaa
