/- Set over from a lower layer: Noda. -/
import Derived.Test.YtgcdhenbpkcmgaaBase
import Derived.Test.YtgcdhenbpkcmgaaQuietb
import Derived.Test.YtgcdhenbpkcmgaaNNodl
namespace Go.Proofs.Ytgcdhenbpkcmgaa
open Go.RowKit Go.Shelf
set_option linter.unusedVariables false
set_option maxRecDepth 100000 in
theorem mayBe0_any (x : Int) (w : World) : Calls Try.prog 54 #[.int .i64 0, .int .i64 x] w fun e w' => e = .returned (.bool (lvB x)) ∧ w' = w := by
  by_cases h1 : x ≥ 0
  · by_cases h2 : x ≤ 9
    · have H : Hid (lvB x = true) := decide_eq_true ⟨h1, h2⟩
      go_enter Try.func54, Try.ntmps54
      go_wp2
      go_ret
      exact ⟨ret_bool H.out.symm, rfl⟩
    · have H : Hid (lvB x = false) := decide_eq_false (by omega)
      go_enter Try.func54, Try.ntmps54
      go_wp2
      go_ret
      exact ⟨ret_bool H.out.symm, rfl⟩
  · have H : Hid (lvB x = false) := decide_eq_false (by omega)
    go_enter Try.func54, Try.ntmps54
    go_wp2
    go_ret
    exact ⟨ret_bool H.out.symm, rfl⟩
set_option maxRecDepth 100000 in
theorem mayBe1_any (x : Int) (w : World) : Calls Try.prog 54 #[.int .i64 1, .int .i64 x] w fun e w' => e = .returned (.bool (tuB x)) ∧ w' = w := by
  by_cases h1 : x ≥ 0
  · by_cases h2 : x ≤ 1099511627776
    · have H : Hid (tuB x = true) := decide_eq_true ⟨h1, h2⟩
      go_enter Try.func54, Try.ntmps54
      go_wp2
      go_ret
      exact ⟨ret_bool H.out.symm, rfl⟩
    · have H : Hid (tuB x = false) := decide_eq_false (by omega)
      go_enter Try.func54, Try.ntmps54
      go_wp2
      go_ret
      exact ⟨ret_bool H.out.symm, rfl⟩
  · have H : Hid (tuB x = false) := decide_eq_false (by omega)
    go_enter Try.func54, Try.ntmps54
    go_wp2
    go_ret
    exact ⟨ret_bool H.out.symm, rfl⟩
set_option maxRecDepth 100000 in
theorem mayBe2_any (x : Int) (w : World) : Calls Try.prog 54 #[.int .i64 2, .int .i64 x] w fun e w' => e = .returned (.bool (lkB x)) ∧ w' = w := by
  by_cases h1 : x ≥ 0
  · by_cases h2 : x ≤ 255
    · have H : Hid (lkB x = true) := decide_eq_true ⟨h1, h2⟩
      go_enter Try.func54, Try.ntmps54
      go_wp2
      go_ret
      exact ⟨ret_bool H.out.symm, rfl⟩
    · have H : Hid (lkB x = false) := decide_eq_false (by omega)
      go_enter Try.func54, Try.ntmps54
      go_wp2
      go_ret
      exact ⟨ret_bool H.out.symm, rfl⟩
  · have H : Hid (lkB x = false) := decide_eq_false (by omega)
    go_enter Try.func54, Try.ntmps54
    go_wp2
    go_ret
    exact ⟨ret_bool H.out.symm, rfl⟩
set_option maxRecDepth 100000 in
theorem mayBe3_any (x : Int) (w : World) : Calls Try.prog 54 #[.int .i64 3, .int .i64 x] w fun e w' => e = .returned (.bool (slB x)) ∧ w' = w := by
  by_cases h1 : x ≥ 1
  · by_cases h2 : x ≤ 255
    · have H : Hid (slB x = true) := decide_eq_true ⟨h1, h2⟩
      go_enter Try.func54, Try.ntmps54
      go_wp2
      go_ret
      exact ⟨ret_bool H.out.symm, rfl⟩
    · have H : Hid (slB x = false) := decide_eq_false (by omega)
      go_enter Try.func54, Try.ntmps54
      go_wp2
      go_ret
      exact ⟨ret_bool H.out.symm, rfl⟩
  · have H : Hid (slB x = false) := decide_eq_false (by omega)
    go_enter Try.func54, Try.ntmps54
    go_wp2
    go_ret
    exact ⟨ret_bool H.out.symm, rfl⟩
set_option maxRecDepth 100000 in
theorem headOf_any (lv tu nx lo : Int) (v : Value) (w : World) (h0 : 0 ≤ lv) (h1 : lv ≤ 9) (h2 : 0 ≤ tu) (h3 : tu ≤ 1099511627776) : Calls Try.prog 55 #[.agg #[.int .i64 lv, .int .i64 tu, .int .i64 nx, .int .i64 lo, v]] w fun e w' => e = .returned (.int .i64 (hdI tu lv)) ∧ Below w.heap.size w w' := by
  go_enter Try.func55, Try.ntmps55
  go_wp2
  go_ret
  exact ⟨ret_int rfl, (Below.refl _ _).alloc (Nat.le_refl _) _⟩
end Go.Proofs.Ytgcdhenbpkcmgaa
