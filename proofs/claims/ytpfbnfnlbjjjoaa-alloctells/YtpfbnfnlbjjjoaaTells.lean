/- The walk of AllocTells. -/
import Derived.Test.YtpfbnfnlbjjjoaaAwake
namespace Go.Proofs.Ytpfbnfnlbjjjoaa
open Go.RowKit
set_option linter.unusedVariables false

set_option maxRecDepth 100000 in
set_option maxHeartbeats 2000000 in
theorem walk_AllocTells (blocks : Int) (a1 : Option Addr) (len1 cap1 : Nat) (a2 : Option Addr) (len2 cap2 : Nat) (n : Int) (w : World) (h1 : RowIn w a1 len1 cap1) (h2 : RowIn w a2 len2 cap2) :
    Calls Try.prog 3 #[.int .i64 blocks, .slice a1 len1 cap1, .slice a2 len2 cap2, .int .i64 n] w fun e w' => e = .returned (.bool true) ∧ Below w.heap.size w w' := by
  by_cases g1 : (len1 : Int) > 1000
  · clear h1 h2
    go_enter Try.func3, Try.ntmps3
    go_wp2_with (go_at_call 8; refine (awake_any _).mono ?_; rintro e w1 ⟨rfl, hb1⟩)
    go_ret
    exact ⟨ret_bool rfl, hb1⟩
  by_cases g2 : (len2 : Int) > 1000
  · clear h1 h2
    go_enter Try.func3, Try.ntmps3
    go_wp2_with (go_at_call 8; refine (awake_any _).mono ?_; rintro e w1 ⟨rfl, hb1⟩)
    go_ret
    exact ⟨ret_bool rfl, hb1⟩
  obtain ⟨used, l1, R1, -⟩ := h1 (by omega)
  obtain ⟨free, l2, R2, -⟩ := h2 (by omega)
  have H1 : Hid (Rd w (.slice a1 len1 cap1) used) := R1.rd (by omega)
  have H2 : Hid (Rd w (.slice a2 len2 cap2) free) := R2.rd (by omega)
  clear R1 R2 h1 h2 l1 l2
  have k9 : Hid (∀ W, Below w.heap.size w W → Calls Try.prog 9 #[.int .i64 blocks, .slice a1 len1 cap1] W fun e w' => ∃ v', e = .returned (.tuple #[v', .int .i64 (frE blocks)]) ∧ Rd w' v' (frL blocks used) ∧ Below W.heap.size W w') := fun W hb => free_any blocks _ used W (H1.out.below hb)
  have k10 : Hid (∀ W, Below w.heap.size w W → Calls Try.prog 10 #[.int .i64 blocks, .slice a1 len1 cap1] W fun e w' => ∃ v', e = .returned (.tuple #[v', .int .i64 (frE blocks)]) ∧ Rd w' v' (frL blocks used) ∧ Below W.heap.size W w') := fun W hb => freeR_any blocks _ used W (H1.out.below hb)
  have k11 : Hid (∀ W, Below w.heap.size w W → Calls Try.prog 11 #[.slice a2 len2 cap2, .int .i64 n] W fun e w' => ∃ v1 v2, e = .returned (.tuple #[v1, v2, .int .i64 (tkE free n)]) ∧ Rd w' v1 (tkA free n) ∧ Rd w' v2 (tkR free n) ∧ Below W.heap.size W w') := fun W hb => take_any _ free n W (H2.out.below hb)
  have k12 : Hid (∀ W, Below w.heap.size w W → Calls Try.prog 12 #[.slice a2 len2 cap2, .int .i64 n] W fun e w' => ∃ v1 v2, e = .returned (.tuple #[v1, v2, .int .i64 (tkE free n)]) ∧ Rd w' v1 (tkA free n) ∧ Rd w' v2 (tkR free n) ∧ Below W.heap.size W w') := fun W hb => takeR_any _ free n W (H2.out.below hb)
  have k13 : Hid (∀ W, Below w.heap.size w W → Calls Try.prog 13 #[.slice a2 len2 cap2, .int .i64 n] W fun e w' => ∃ v', e = .returned (.tuple #[v', .int .i64 (gvE free n)]) ∧ Rd w' v' (gvL free n) ∧ Below W.heap.size W w') := fun W hb => give_any _ free n W (H2.out.below hb)
  have k14 : Hid (∀ W, Below w.heap.size w W → Calls Try.prog 14 #[.slice a2 len2 cap2, .int .i64 n] W fun e w' => ∃ v', e = .returned (.tuple #[v', .int .i64 (gvE free n)]) ∧ Rd w' v' (gvL free n) ∧ Below W.heap.size W w') := fun W hb => giveR_any _ free n W (H2.out.below hb)
  have k16 : Hid (∀ W, Below w.heap.size w W → Calls Try.prog 16 #[.slice a2 len2 cap2] W fun e w' => e = .returned (.bool (chk free)) ∧ w' = W) := fun W hb => check_any _ free W (H2.out.below hb)
  have k17 : Hid (∀ W, Below w.heap.size w W → Calls Try.prog 17 #[.slice a2 len2 cap2] W fun e w' => e = .returned (.bool (chk free)) ∧ Below W.heap.size W w') := fun W hb => checkR_any _ free W (H2.out.below hb)
  generalize frE blocks = E1 at k9 k10
  generalize frL blocks used = L1 at k9 k10
  generalize tkE free n = E2 at k11 k12
  generalize tkA free n = A2 at k11 k12
  generalize tkR free n = B2 at k11 k12
  generalize gvE free n = E3 at k13 k14
  generalize gvL free n = L3 at k13 k14
  generalize chk free = C at k16 k17
  have hbb : (C == C) = true := by simp
  have t1 : Hid (0 = 0) := rfl
  have t2 : Hid (0 = 0) := rfl
  have t3 : Hid (0 = 0) := rfl
  clear H1 H2
  go_enter Try.func3, Try.ntmps3
  go_wp2_with (first
    | (go_at_call 8; refine (awake_any _).mono ?_; rintro e w1 ⟨rfl, hb1⟩; have B1 : Hid (Below w.heap.size w w1) := hb1; clear hb1)
    | (go_at_call 9; refine (k9.out _ B1.out).mono ?_; rintro e w2 ⟨v2, rfl, r2, hb2⟩; have R2 : Hid (Rd w2 v2 L1) := r2; have J2 : Hid (Below w.heap.size w w2) := bstep B1.out hb2; clear r2 hb2)
    | (go_at_call 10; refine (k10.out _ J2.out).mono ?_; rintro e w3 ⟨v3, rfl, r3, hb3⟩; have R3 : Hid (Rd w3 v3 L1) := r3; have Q2 : Hid (Rd w3 v2 L1) := R2.out.below hb3; have J3 : Hid (Below w.heap.size w w3) := bstep J2.out hb3; clear r3 hb3)
    | (go_at_call 11; refine (k11.out _ J3.out).mono ?_; rintro e w4 ⟨v4, u4, rfl, r4, q4, hb4⟩; have R4 : Hid (Rd w4 v4 A2) := r4; have Q4 : Hid (Rd w4 u4 B2) := q4; have D4 : Hid (Below w3.heap.size w3 w4) := hb4; have J4 : Hid (Below w.heap.size w w4) := bstep J3.out hb4; clear r4 q4 hb4)
    | (go_at_call 12; refine (k12.out _ J4.out).mono ?_; rintro e w5 ⟨v5, u5, rfl, r5, q5, hb5⟩; have R5 : Hid (Rd w5 v5 A2) := r5; have Q5 : Hid (Rd w5 u5 B2) := q5; have R45 : Hid (Rd w5 v4 A2) := R4.out.below hb5; have Q45 : Hid (Rd w5 u4 B2) := Q4.out.below hb5; have D5 : Hid (Below w3.heap.size w3 w5) := bstep D4.out hb5; have J5 : Hid (Below w.heap.size w w5) := bstep J4.out hb5; clear r5 q5 hb5)
    | (go_at_call 13; refine (k13.out _ J5.out).mono ?_; rintro e w6 ⟨v6, rfl, r6, hb6⟩; have R6 : Hid (Rd w6 v6 L3) := r6; have D6 : Hid (Below w5.heap.size w5 w6) := hb6; have J6 : Hid (Below w.heap.size w w6) := bstep J5.out hb6; clear r6 hb6)
    | (go_at_call 14; refine (k14.out _ J6.out).mono ?_; rintro e w7 ⟨v7, rfl, r7, hb7⟩; have R7 : Hid (Rd w7 v7 L3) := r7; have R67 : Hid (Rd w7 v6 L3) := R6.out.below hb7; have D7 : Hid (Below w5.heap.size w5 w7) := bstep D6.out hb7; have J7 : Hid (Below w.heap.size w w7) := bstep J6.out hb7; have C7 : Hid (Below w3.heap.size w3 w7) := bstep D5.out D7.out; clear r7 hb7)
    | (clear t1; go_at_call 15; refine (aw15 _ _ L1 _ (Q2.out.below C7.out) (R3.out.below C7.out)).mono ?_; rintro e w8 ⟨rfl, hb8⟩; have D8 : Hid (Below w7.heap.size w7 w8) := hb8; clear hb8)
    | (clear t2; go_at_call 15; refine (aw15 _ _ A2 _ (R45.out.below (bstep D7.out D8.out)) (R5.out.below (bstep D7.out D8.out))).mono ?_; rintro e w9 ⟨rfl, hb9⟩; have D9 : Hid (Below w7.heap.size w7 w9) := bstep D8.out hb9; clear hb9)
    | (clear t3; go_at_call 15; refine (aw15 _ _ B2 _ (Q45.out.below (bstep D7.out D9.out)) (Q5.out.below (bstep D7.out D9.out))).mono ?_; rintro e w10 ⟨rfl, hb10⟩; have D10 : Hid (Below w7.heap.size w7 w10) := bstep D9.out hb10; clear hb10)
    | (go_at_call 15; refine (aw15 _ _ L3 _ (R67.out.below D10.out) (R7.out.below D10.out)).mono ?_; rintro e w11 ⟨rfl, hb11⟩; have J11 : Hid (Below w.heap.size w w11) := bstep (bstep J7.out D10.out) hb11; clear hb11)
    | (go_at_call 16; refine (k16.out _ J11.out).mono ?_; rintro e w12 ⟨rfl, hw⟩; rw [hw]; clear hw w12)
    | (go_at_call 17; refine (k17.out _ J11.out).mono ?_; rintro e w13 ⟨rfl, hb13⟩; have J13 : Hid (Below w.heap.size w w13) := bstep J11.out hb13; clear hb13))
  go_ret
  exact ⟨ret_bool rfl, J13.out⟩
end Go.Proofs.Ytpfbnfnlbjjjoaa
