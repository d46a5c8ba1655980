/- Walks of layer 1: the document's own keys. -/
import Derived.Test.YtlfpmmdekanjkaaWalkd
import Derived.Test.YtlfpmmdekanjkaaLib
namespace Go.Proofs.Ytlfpmmdekanjkaa
open Go.RowKit

theorem Try.info5 : (Try.prog.info? 5).map (fun i => (i.zero, i.size, i.bytes)) = some (some (.int .u8 0), 1, 1) := by kernel_rfl

/-- n over 256, k times. -/
def dv (n : Int) : Nat → Int
  | 0 => n
  | k + 1 => dv n k / 256
/-- The last k bytes of n. -/
def lastB (n : Int) : Nat → List Int
  | 0 => []
  | k + 1 => (dv n k % 256) :: lastB n k

theorem dv_bd (n : Int) (h0 : 0 ≤ n) (h : n < 18446744073709551616) : ∀ k, 0 ≤ dv n k ∧ dv n k < 18446744073709551616
  | 0 => ⟨h0, h⟩
  | k + 1 => by
    have := dv_bd n h0 h k
    show 0 ≤ dv n k / 256 ∧ dv n k / 256 < _
    omega
theorem lastB_8 (n : Int) : lastB n 8 = kb n := by
  simp only [lastB, dv, kb]
  have e1 : n / 256 / 256 = n / 65536 := by omega
  have e2 : n / 65536 / 256 = n / 16777216 := by omega
  have e3 : n / 16777216 / 256 = n / 4294967296 := by omega
  have e4 : n / 4294967296 / 256 = n / 1099511627776 := by omega
  have e5 : n / 1099511627776 / 256 = n / 281474976710656 := by omega
  have e6 : n / 281474976710656 / 256 = n / 72057594037927936 := by omega
  rw [e1, e2, e3, e4, e5, e6]

set_option maxRecDepth 100000 in
set_option maxHeartbeats 1000000 in
theorem keyR_any (b : Nat) (hb : b < 18446744073709551616) (w : World) :
    Calls Try.prog 20 #[.float .f64 b] w fun e w' => e = .returned (.string (keyB (rk b))) ∧ Below w.heap.size w w' := by
  have hr := rk_bd b hb
  have hd := dv_bd (rk b) hr.1 hr.2
  obtain ⟨i0, hi, hz0, hz1, hz2⟩ := info_parts Try.info5
  go_enter Try.func20, Try.ntmps20
  go_wp2_with (first | (go_at_call 16; refine (rankR_any _ ?_ _).mono ?_; assumption; rintro e w' ⟨rfl, hw⟩; rw [hw]; clear hw w'))
  go_loopw [3, 4, 5] (fun t3 t4 t5 w1 => ∃ k : Nat, k ≤ 8 ∧ t5 = .int .i64 k ∧ t3 = .int .u64 (dv (rk b) k) ∧ w1.ownsRow w.heap.size 5 1 t4 k ((lastB (rk b) k).map (Value.int .u8)) ∧ Below w.heap.size w w1) (fun _ _ t5 _ => 8 - (intOf t5).toNat)
  case atStart => exact ⟨0, by omega, rfl, rfl, World.ownsRow_nil _ _ _ _, Below.refl _ _⟩
  case round =>
    obtain ⟨k, hk, rfl, rfl, hown, hbel⟩ := hrel
    obtain ⟨d0, d1⟩ := hd k
    clear hd
    by_cases hlt : k < 8
    · have hsz := hbel.size
      go_wp2_with (first | (at_builtin; refine wpList_append_two rfl _ _ 32 rfl w.heap.size w.heap.size 5 i0 (.int .u8 0) 1 1 Try.underlying32 hi hz0 hz1 hz2 rfl (by decide) (.slice (some ⟨wr.heap.size, 0, none⟩) 1 1) 1 [.int .u8 (dv (rk b) k % 256)] rfl (by exact World.ownsRow_lit _ _ 1 (by omega) (by unfold maxLen; omega) rfl) _ k _ rfl (hown.alloc _) (fun u hu => by obtain ⟨y, _, rfl⟩ := List.mem_map.1 hu; rfl) (by unfold maxLen; omega) (by omega) (by simp; omega) ?_; intro v' w3 hown' hgrow3))
      have hb3 : Below w.heap.size w w3 := (hbel.alloc hsz _).grown hgrow3 (by simp; omega) (by intro j hj; cases hj; exact hsz)
      rw [Nat.add_comm 1 k] at hown'
      exact ⟨⟨k + 1, by omega, by go_num, rfl, hown', hb3⟩, by simp [intOf]; omega⟩
    · have : k = 8 := by omega
      subst this
      have hcv := run_convert_owned (P := Try.prog) 32 9 Try.underlying32 Try.underlying5 Try.underlying9 hown
      go_wp2
      go_ret
      exact ⟨ret_str (lastB_8 _), hbel⟩
end Go.Proofs.Ytlfpmmdekanjkaa
