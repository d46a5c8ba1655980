/- Walks of layer 3's statements: what it tells; bytes alone. -/
import Derived.Test.YtnbcpoeabgcgdaaRowin
namespace Go.Proofs.Ytnbcpoeabgcgdaa
open Go.RowKit

theorem wf_u32 {z : Int} (h : (Lit.int .u32 z).wf = true) : ∃ n : Nat, z = (n : Int) ∧ n < 4294967296 := by
  simp [Lit.wf, IntKind.min, IntKind.max, IntKind.bits, IntKind.signed] at h
  exact ⟨z.toNat, by omega, by omega⟩
theorem wf_u8 {z : Int} (h : (Lit.int .u8 z).wf = true) : ∃ n : Nat, z = (n : Int) ∧ n < 256 := by
  simp [Lit.wf, IntKind.min, IntKind.max, IntKind.bits, IntKind.signed] at h
  exact ⟨z.toNat, by omega, by omega⟩

set_option maxRecDepth 100000 in
set_option maxHeartbeats 1000000 in
theorem walk_SumTells (c y z : Int) (a : Option Addr) (len cap : Nat) (zs : List Int) (w : World) (fc : (Lit.int .u32 c).wf = true) (fy : (Lit.int .u8 y).wf = true) (_hz : (Lit.int .i64 z).wf = true) (hr : IsRow .i64 w a len cap zs) :
    Calls Try.prog 3 #[.int .u32 c, .int .u8 y, .int .i64 z, .slice a len cap] w fun e w' => e = .returned (.bool true) ∧ Below w.heap.size w w' := by
  obtain ⟨c, rfl, hc⟩ := wf_u32 fc
  obtain ⟨y, rfl, hy⟩ := wf_u8 fy
  have hsm := hr.small
  clear fc fy
  by_cases h1 : (len : Int) > 300
  · go_enter Try.func3, Try.ntmps3
    go_wp2_with (go_at_call 9; refine (awake_any _).mono ?_; rintro e w1 ⟨rfl, hb1⟩)
    go_ret
    exact ⟨rfl, hb1⟩
  · have hR := Rd.of_row hr (by omega)
    go_enter Try.func3, Try.ntmps3
    go_wp2_with (first
      | (go_at_call 9; refine (awake_any _).mono ?_; rintro e w1 ⟨rfl, hb1⟩; have hR1 := hR.below hb1; clear hR)
      | (go_at_call 10; refine (byte_any _ _ _ hc hy).mono ?_; rintro e w2 ⟨rfl, hb2⟩; have hR2 := hR1.below hb2; clear hR1)
      | (go_at_call 11; refine (byteR_any _ _ _ hc hy).mono ?_; rintro e w' ⟨rfl, hw⟩; rw [hw]; clear hw w')
      | (go_at_call 12; refine (word_any _ _ _ hc).mono ?_; rintro e w3 ⟨rfl, hb3⟩; have hR3 := hR2.below hb3; clear hR2)
      | (go_at_call 13; refine (wordR_any _ _ _ hc).mono ?_; rintro e w4 ⟨rfl, hb4⟩; have hR4 := hR3.below hb4; clear hR3)
      | (go_at_call 14; refine (of_any _ _ _ hR4).mono ?_; rintro e w5 ⟨rfl, hb5⟩; have hR5 := hR4.below hb5; clear hR4)
      | (go_at_call 15; refine (ofR_any _ _ _ hR5).mono ?_; rintro e w6 ⟨rfl, hb6⟩))
    go_ret
    exact ⟨rfl, bstep (bstep (bstep (bstep (bstep hb1 hb2) hb3) hb4) hb5) hb6⟩

theorem eq_nat (x y : Nat) : ((x : Int) == (y : Int)) = decide (x = y) := by
  by_cases h : x = y
  · simp [h]
  · simp only [h, decide_false]; simp; omega
set_option maxRecDepth 100000 in
set_option maxHeartbeats 1000000 in
theorem walk_SumOnly (c d a b : Int) (w : World) (fc : (Lit.int .u32 c).wf = true) (fd : (Lit.int .u32 d).wf = true) (fa : (Lit.int .u8 a).wf = true) (fb : (Lit.int .u8 b).wf = true) :
    Calls Try.prog 7 #[.int .u32 c, .int .u32 d, .int .u8 a, .int .u8 b] w fun e w' => e = .returned (.bool true) ∧ Below w.heap.size w w' := by
  obtain ⟨c, rfl, hc⟩ := wf_u32 fc
  obtain ⟨d, rfl, hd⟩ := wf_u32 fd
  obtain ⟨a, rfl, ha⟩ := wf_u8 fa
  obtain ⟨b, rfl, hb⟩ := wf_u8 fb
  clear fc fd fa fb
  obtain ⟨p, q1⟩ : ∃ p, decide (c = d) = p := ⟨_, rfl⟩
  obtain ⟨q, q2⟩ : ∃ q, decide (a = b) = q := ⟨_, rfl⟩
  have e1 : ((c : Int) == (d : Int)) = p := by rw [eq_nat]; exact q1
  have e2 : ((byF c a : Int) == (byF d a : Int)) = p := by rw [eq_nat, ← q1, decide_eq_decide]; exact ⟨byF_inj hc hd ha, fun h => by rw [h]⟩
  have e3 : ((a : Int) == (b : Int)) = q := by rw [eq_nat]; exact q2
  have e4 : ((byF c a : Int) == (byF c b : Int)) = q := by rw [eq_nat, ← q2, decide_eq_decide]; exact ⟨byF_inj2 hc ha hb, fun h => by rw [h]⟩
  clear q1 q2
  have t1 : Hid (0 = 0) := rfl
  have t2 : Hid (0 = 0) := rfl
  have t3 : Hid (0 = 0) := rfl
  have t4 : Hid (0 = 0) := rfl
  go_enter Try.func7, Try.ntmps7
  go_wp2_with (first
    | (go_at_call 9; refine (awake_any _).mono ?_; rintro e w1 ⟨rfl, hb1⟩)
    | (go_at_call 10; clear t1; refine (byte_any _ _ _ hc ha).mono ?_; rintro e w2 ⟨rfl, hb2⟩)
    | (go_at_call 10; clear t2; refine (byte_any _ _ _ hd ha).mono ?_; rintro e w3 ⟨rfl, hb3⟩)
    | (go_at_call 10; clear t3; refine (byte_any _ _ _ hc ha).mono ?_; rintro e w4 ⟨rfl, hb4⟩)
    | (go_at_call 10; clear t4; refine (byte_any _ _ _ hc hb).mono ?_; rintro e w5 ⟨rfl, hb5⟩))
  go_ret
  exact ⟨rfl, bstep (bstep (bstep (bstep hb1 hb2) hb3) hb4) hb5⟩
end Go.Proofs.Ytnbcpoeabgcgdaa
