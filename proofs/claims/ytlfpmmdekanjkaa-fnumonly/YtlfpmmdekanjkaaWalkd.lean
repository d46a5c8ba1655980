/- Walks of layer 1: keys, and their way back. -/
import Derived.Test.YtlfpmmdekanjkaaWalka
import Derived.Laws.BytesArg
namespace Go.Proofs.Ytlfpmmdekanjkaa
open Go.RowKit

/-- The eight bytes of a number, the highest first. -/
def kb (n : Int) : List Int := [n / 72057594037927936 % 256, n / 281474976710656 % 256, n / 1099511627776 % 256, n / 4294967296 % 256, n / 16777216 % 256, n / 65536 % 256, n / 256 % 256, n % 256]
def keyB (n : Int) : ByteArray := strOfNums (kb n)

theorem conv8 (x0 x1 x2 x3 x4 x5 x6 x7 : Int) (w : World) :
    (convert 32 9 (.slice (some ⟨w.heap.size, 0, none⟩) 8 8)).run Try.prog (w.alloc (.cells #[.int .u8 x0, .int .u8 x1, .int .u8 x2, .int .u8 x3, .int .u8 x4, .int .u8 x5, .int .u8 x6, .int .u8 x7] 40)) =
      .ok (.string (strOfNums [x0, x1, x2, x3, x4, x5, x6, x7])) (w.alloc (.cells #[.int .u8 x0, .int .u8 x1, .int .u8 x2, .int .u8 x3, .int .u8 x4, .int .u8 x5, .int .u8 x6, .int .u8 x7] 40)) := by
  refine run_convert_bytes_arg _ 32 5 Try.underlying32 Try.underlying5 w.heap.size 0 8 8 [x0, x1, x2, x3, x4, x5, x6, x7] rfl ?_ 9 Try.underlying9
  intro i hi
  have : i = 0 ∨ i = 1 ∨ i = 2 ∨ i = 3 ∨ i = 4 ∨ i = 5 ∨ i = 6 ∨ i = 7 := by omega
  rcases this with rfl | rfl | rfl | rfl | rfl | rfl | rfl | rfl <;> simp [go_sem]

theorem kb_walk (n : Int) (h0 : 0 ≤ n) (h1 : n < 18446744073709551616) :
    [n / 256 / 256 / 256 / 256 / 256 / 256 / 256, n / 256 / 256 / 256 / 256 / 256 / 256 % 256, n / 256 / 256 / 256 / 256 / 256 % 256, n / 256 / 256 / 256 / 256 % 256, n / 256 / 256 / 256 % 256, n / 256 / 256 % 256, n / 256 % 256, n % 256] = kb n := by
  unfold kb
  have e1 : n / 256 / 256 = n / 65536 := by omega
  have e2 : n / 65536 / 256 = n / 16777216 := by omega
  have e3 : n / 16777216 / 256 = n / 4294967296 := by omega
  have e4 : n / 4294967296 / 256 = n / 1099511627776 := by omega
  have e5 : n / 1099511627776 / 256 = n / 281474976710656 := by omega
  have e6 : n / 281474976710656 / 256 = n / 72057594037927936 := by omega
  have e7 : n / 72057594037927936 % 256 = n / 72057594037927936 := by omega
  rw [e1, e2, e3, e4, e5, e6, e7]

theorem ret_str {a b : List Int} (h : a = b) : Ending.returned (.string (strOfNums a)) = .returned (.string (strOfNums b)) := by rw [h]

set_option maxRecDepth 100000 in
set_option maxHeartbeats 400000 in
theorem key_any (b : Nat) (hb : b < 18446744073709551616) (w : World) :
    Calls Try.prog 19 #[.float .f64 b] w fun e w' => e = .returned (.string (keyB (rk b))) ∧ Below w.heap.size w w' := by
  have hr := rk_bd b hb
  have hcv := conv8
  go_enter Try.func19, Try.ntmps19
  go_wp2_with (first | (go_at_call 15; refine (rank_any _ ?_ _).mono ?_; assumption; rintro e w' ⟨rfl, rfl⟩))
  obtain ⟨h0, h1⟩ := hr
  refine wp_loop_rounds 9 ?_
  iterate 9 (rw [rounds_succ]; go_wp2)
  go_ret
  exact ⟨ret_str (kb_walk (rk b) h0 h1), (Below.refl _ _).alloc (Nat.le_refl _) _⟩
end Go.Proofs.Ytlfpmmdekanjkaa
