/- Walks of layer 10: awake. -/
import Derived.Test.YtpfbnfnlbjjjoaaFree
import Derived.Test.YtpfbnfnlbjjjoaaTakr
import Derived.Test.YtpfbnfnlbjjjoaaGive
import Derived.Test.YtpfbnfnlbjjjoaaGivr
namespace Go.Proofs.Ytpfbnfnlbjjjoaa
open Go.RowKit
set_option linter.unusedVariables false

theorem aw9a (v : Value) (w : World) (hR : Rd w v [1, 3]) : Calls Try.prog 9 #[.int .i64 6, v] w fun e w' => ∃ a c, e = .returned (.tuple #[.slice a 3 c, .int .i64 0]) ∧ Rd w' (.slice a 3 c) [2, 4, 5] ∧ Below w.heap.size w w' := by
  refine (free_any 6 v [1, 3] w hR).mono ?_
  rw [show frL 6 [1, 3] = [2, 4, 5] by decide, show frE 6 = 0 by decide]
  rintro e w' ⟨v', rfl, hR', hb⟩
  obtain ⟨_, a, c, rfl⟩ := hR'.form
  exact ⟨a, c, rfl, hR', hb⟩
theorem aw9b (w : World) : Calls Try.prog 9 #[.int .i64 0, .slice none 0 0] w fun e w' => ∃ a c, e = .returned (.tuple #[.slice a 0 c, .int .i64 1]) ∧ Below w.heap.size w w' := by
  refine (free_any 0 _ [] w (nil_rd w)).mono ?_
  rw [show frL 0 [] = [] by decide, show frE 0 = 1 by decide]
  rintro e w' ⟨v', rfl, hR', hb⟩
  obtain ⟨_, a, c, rfl⟩ := hR'.form
  exact ⟨a, c, rfl, hb⟩
theorem aw11a (v : Value) (w : World) (hR : Rd w v [2, 4, 5]) : Calls Try.prog 11 #[v, .int .i64 2] w fun e w' => ∃ v1 v2, e = .returned (.tuple #[v1, v2, .int .i64 0]) ∧ Rd w' v1 [2, 4] ∧ Rd w' v2 [5] ∧ Below w.heap.size w w' := by
  refine (take_any v [2, 4, 5] 2 w hR).mono ?_
  rw [show tkE [2, 4, 5] 2 = 0 by decide, show tkA [2, 4, 5] 2 = [2, 4] by decide, show tkR [2, 4, 5] 2 = [5] by decide]
  exact fun e w' h => h
theorem aw11b (v : Value) (w : World) (hR : Rd w v [2, 4, 5]) : Calls Try.prog 11 #[v, .int .i64 4] w fun e w' => ∃ v1 v2, e = .returned (.tuple #[v1, v2, .int .i64 100]) ∧ Below w.heap.size w w' := by
  refine (take_any v [2, 4, 5] 4 w hR).mono ?_
  rw [show tkE [2, 4, 5] 4 = 100 by decide]
  rintro e w' ⟨v1, v2, rfl, _, _, hb⟩
  exact ⟨v1, v2, rfl, hb⟩
theorem aw13 (v : Value) (w : World) (hR : Rd w v [5]) : Calls Try.prog 13 #[v, .int .i64 3] w fun e w' => ∃ v1, e = .returned (.tuple #[v1, .int .i64 0]) ∧ Rd w' v1 [3, 5] ∧ Below w.heap.size w w' := by
  refine (give_any v [5] 3 w hR).mono ?_
  rw [show gvE [5] 3 = 0 by decide, show gvL [5] 3 = [3, 5] by decide]
  exact fun e w' h => h
theorem aw15 (u v : Value) (zs : List Int) (w : World) (hu : Rd w u zs) (hv : Rd w v zs) : Calls Try.prog 15 #[u, v] w fun e w' => e = .returned (.bool true) ∧ Below w.heap.size w w' := by
  have := numbers_any u v zs zs w hu hv
  rw [decide_eq_true rfl] at this
  exact this
theorem aw16a (v : Value) (w : World) (hR : Rd w v [2, 4, 5]) : Calls Try.prog 16 #[v] w fun e w' => e = .returned (.bool true) ∧ w' = w := by
  have := check_any v [2, 4, 5] w hR
  rw [show chk [2, 4, 5] = true by decide] at this
  exact this
theorem aw16b (v : Value) (w : World) (hR : Rd w v [0]) : Calls Try.prog 16 #[v] w fun e w' => e = .returned (.bool false) ∧ w' = w := by
  have := check_any v [0] w hR
  rw [show chk [0] = false by decide] at this
  exact this
theorem bal {w W : World} (h : Below w.heap.size w W) (o : Obj) : Below w.heap.size w (W.alloc o) := h.alloc h.size o

set_option maxRecDepth 100000 in
set_option maxHeartbeats 2000000 in
theorem awake_any (w : World) : Calls Try.prog 8 #[] w fun e w' => e = .returned (.bool true) ∧ Below w.heap.size w w' := by
  have R0 : Hid (Rd (w.alloc (.cells #[.int .i64 1, .int .i64 3] 3)) (.slice (some ⟨w.heap.size, 0, none⟩) 2 2) [1, 3]) := rd_lit [1, 3] rfl (by simp)
  have B0 : Hid (Below w.heap.size w (w.alloc (.cells #[.int .i64 1, .int .i64 3] 3))) := (Below.refl _ _).alloc (Nat.le_refl _) _
  have t1 : Hid (0 = 0) := rfl
  have t2 : Hid (0 = 0) := rfl
  have t3 : Hid (0 = 0) := rfl
  have t4 : Hid (0 = 0) := rfl
  have t5 : Hid (0 = 0) := rfl
  go_enter Try.func8, Try.ntmps8
  go_wp2_with (first
    | (clear t1; go_at_call 9; refine (aw9a _ _ R0.out).mono ?_; rintro e w1 ⟨a1, c1, rfl, r1, hb1⟩; have R1 : Hid (Rd w1 (.slice a1 3 c1) [2, 4, 5]) := r1; have B1 : Hid (Below w.heap.size w w1) := bstep B0.out hb1; clear r1 hb1)
    | (clear t2; go_at_call 11; refine (aw11a _ _ R1.out).mono ?_; rintro e w2 ⟨v2, u2, rfl, r2, q2, hb2⟩; have R2 : Hid (Rd w2 v2 [2, 4]) := r2; have Q2 : Hid (Rd w2 u2 [5]) := q2; have B2 : Hid (Below w1.heap.size w1 w2) := hb2; clear r2 q2 hb2)
    | (go_at_call 13; refine (aw13 _ _ Q2.out).mono ?_; rintro e w3 ⟨v3, rfl, r3, hb3⟩; have R3 : Hid (Rd w3 v3 [3, 5]) := r3; have B3 : Hid (Below w2.heap.size w2 w3) := hb3; have C3 : Hid (Below w1.heap.size w1 w3) := bstep B2.out hb3; clear r3 hb3)
    | (go_at_call 11; refine (aw11b _ _ (R1.out.below C3.out)).mono ?_; rintro e w4 ⟨v4, u4, rfl, hb4⟩; have B4 : Hid (Below w3.heap.size w3 w4) := hb4; clear hb4)
    | (go_at_call 9; refine (aw9b _).mono ?_; rintro e w5 ⟨a5, c5, rfl, hb5⟩; have B5 : Hid (Below w3.heap.size w3 w5) := bstep B4.out hb5; have C5 : Hid (Below w1.heap.size w1 (w5.alloc (.cells #[.int .i64 2, .int .i64 4, .int .i64 5] 3))) := bal (bstep C3.out B5.out) _; clear hb5)
    | (clear t3; go_at_call 15; refine (aw15 _ _ [2, 4, 5] _ (R1.out.below C5.out) (rd_lit [2, 4, 5] rfl (by simp))).mono ?_; rintro e w6 ⟨rfl, hb6⟩; have D6 : Hid (Below w3.heap.size w3 (w6.alloc (.cells #[.int .i64 2, .int .i64 4] 3))) := bal (bstep (bal B5.out _) hb6) _; have B6 : Hid (Below w5.heap.size w5 w6) := bstep (bal (Below.refl _ _) _) hb6; clear hb6)
    | (clear t4; go_at_call 15; refine (aw15 _ _ [2, 4] _ ((R2.out.below B3.out).below D6.out) (rd_lit [2, 4] rfl (by simp))).mono ?_; rintro e w7 ⟨rfl, hb7⟩; have D7 : Hid (Below w3.heap.size w3 (w7.alloc (.cells #[.int .i64 3, .int .i64 5] 3))) := bal (bstep D6.out hb7) _; clear hb7)
    | (go_at_call 15; refine (aw15 _ _ [3, 5] _ (R3.out.below D7.out) (rd_lit [3, 5] rfl (by simp))).mono ?_; rintro e w8 ⟨rfl, hb8⟩; have D8 : Hid (Below w3.heap.size w3 w8) := bstep D7.out hb8; clear hb8)
    | (clear t5; go_at_call 16; refine (aw16a _ _ ((R1.out.below C3.out).below D8.out)).mono ?_; rintro e w9 ⟨rfl, hw⟩; rw [hw]; clear hw w9)
    | (go_at_call 16; refine (aw16b _ _ (rd_lit [0] rfl (by simp))).mono ?_; rintro e w9 ⟨rfl, hw⟩; rw [hw]; clear hw w9))
  go_ret
  exact ⟨ret_bool rfl, bal (bstep B1.out (bstep C3.out D8.out)) _⟩
end Go.Proofs.Ytpfbnfnlbjjjoaa
