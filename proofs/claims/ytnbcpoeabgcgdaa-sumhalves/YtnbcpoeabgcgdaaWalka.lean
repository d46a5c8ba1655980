/- Walks of layer 3: a check moved; the table; a byte more, a word more. -/
import Derived.Test.YtnbcpoeabgcgdaaNums
import Derived.Test.YtnbcpoeabgcgdaaLib
import Derived.Test.YtnbcpoeabgcgdaaChecked
import Derived.Deep.QuietTactic
import Derived.BigQuiet
import Derived.WalkSmall
import Derived.Laws.BitsAllLaws
import Derived.Deep.MidRow
import Derived.Deep.OwnRows
namespace Go.Proofs.Ytnbcpoeabgcgdaa
open Go.RowKit

theorem ret_int {k : IntKind} {a b : Int} (h : a = b) : Ending.returned (.int k a) = .returned (.int k b) := by rw [h]
theorem ret_bool {a b : Bool} (h : a = b) : Ending.returned (.bool a) = .returned (.bool b) := by rw [h]
theorem bstep {w a b : World} (h : Below w.heap.size w a) (k : Below a.heap.size a b) : Below w.heap.size w b := h.trans (k.mono h.size)

theorem and_one (x : Nat) (h : x < 4294967296) : bits .and .u32 (x : Int) 1 = (x : Int) % 2 := by
  have := u32_and_nat x 1 h (by omega)
  rw [nat_mask1] at this
  simpa using this
theorem xor_turns (x : Nat) (h : x < 4294967296) (e : x % 2 = 1) : bits .xor .u32 ((x : Int) / 2) 3988292384 = (mv x : Int) := by
  have := u32_xor_nat (x / 2) 3988292384 (by omega) (by omega)
  rw [mv_odd e]
  simpa using this

set_option maxRecDepth 100000 in
theorem move_any (x : Nat) (w : World) (h : x < 4294967296) : Calls Try.prog 21 #[.int .u32 x] w fun e w' => e = .returned (.int .u32 (mv x : Nat)) ∧ w' = w := by
  have h1 := and_one x h
  by_cases e : x % 2 = 1
  · have h2 := xor_turns x h e
    have h3 : ((x : Int) % 2 == 1) = true := by simp; omega
    clear e
    go_enter Try.func21, Try.ntmps21
    go_wp2
    go_ret
    exact ⟨ret_int rfl, rfl⟩
  · have h3 : ((x : Int) % 2 == 1) = false := by simp; omega
    have H : Hid (mv x = x / 2) := mv_even (by omega)
    clear e
    go_enter Try.func21, Try.ntmps21
    go_wp2
    go_ret
    exact ⟨ret_int (by rw [H.out]; simp), rfl⟩
end Go.Proofs.Ytnbcpoeabgcgdaa
