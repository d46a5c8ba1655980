/- Layer 8: SuperTells, walked. -/
import Derived.Test.YtmenkolceahebaaSuph
namespace Go.Proofs.Ytmenkolceahebaa
open Go.RowKit Go.Shelf Classical
set_option linter.unusedVariables false

set_option maxRecDepth 100000 in
set_option maxHeartbeats 4000000 in
theorem walk_SuperTells (n r : Int) (a : Option Addr) (len cap : Nat) (w : World) (hK : RowIn w a len cap) :
    Calls Try.prog 3 #[.int .i64 n, .int .i64 r, .slice a len cap] w fun e w' => e = .returned (.bool true) ∧ Below w.heap.size w w' := by
  by_cases h5 : (len : Int) > 5000
  · clear hK
    go_enter Try.func3, Try.ntmps3
    go_wp2_with (go_at_call 7; refine (awake_any _).mono ?_; rintro e w1 ⟨rfl, hb1⟩)
    go_ret
    exact ⟨ret_bool rfl, hb1⟩
  · obtain ⟨zs, hl, hR, -⟩ := hK (by omega)
    have HR : Hid (Rl w (.slice a len cap) zs) := hR
    have k8 : Hid (∀ w, Calls Try.prog 8 #[.int .i64 n, .int .i64 r] w fun e w' => ∃ v, e = .returned (.tuple #[v, .int .i64 (wdE n r)]) ∧ Rd w' v (wdL n r) ∧ Below w.heap.size w w') := fun w => words_any n r w
    have k9 : Hid (∀ w, Calls Try.prog 9 #[.int .i64 n, .int .i64 r] w fun e w' => ∃ v, e = .returned (.tuple #[v, .int .i64 (wdE n r)]) ∧ Rd w' v (wdL n r) ∧ Below w.heap.size w w') := fun w => wordsR_any n r w
    have k12 : Hid (∀ w, Calls Try.prog 12 #[.int .i64 n, .int .i64 r] w fun e w' => ∃ v, e = .returned (.tuple #[v, .int .i64 (wdE n r)]) ∧ RdS w' v (rtL n r) ∧ Below w.heap.size w w') := fun w => root_any n r w
    have k13 : Hid (∀ w, Calls Try.prog 13 #[.int .i64 n, .int .i64 r] w fun e w' => ∃ v, e = .returned (.tuple #[v, .int .i64 (wdE n r)]) ∧ RdS w' v (rtL n r) ∧ Below w.heap.size w w') := fun w => rootR_any n r w
    have k10 : Hid (∀ W, Below w.heap.size w W → Calls Try.prog 10 #[.slice a len cap] W fun e w' => e = .returned (.tuple #[.int .i64 (rdN zs), .int .i64 (rdR zs), .int .i64 (rdE zs)]) ∧ Below W.heap.size W w') := fun W hb => read_any _ zs W (HR.out.below hb)
    have k11 : Hid (∀ W, Below w.heap.size w W → Calls Try.prog 11 #[.slice a len cap] W fun e w' => e = .returned (.tuple #[.int .i64 (rdN zs), .int .i64 (rdR zs), .int .i64 (rdE zs)]) ∧ Below W.heap.size W w') := fun W hb => readR_any _ zs W (HR.out.below hb)
    generalize wdE n r = E at *
    generalize wdL n r = L at *
    generalize rtL n r = S at *
    generalize rdN zs = x1 at *
    generalize rdR zs = x2 at *
    generalize rdE zs = x3 at *
    clear hl hR HR
    go_enter Try.func3, Try.ntmps3
    go_wp2_with (first
      | (go_at_call 7; refine (awake_any _).mono ?_; rintro e w1 ⟨rfl, hb1⟩; have H1 : Hid (Below w.heap.size w w1) := hb1; clear hb1)
      | (go_at_call 8; refine (k8.out _).mono ?_; rintro e w2 ⟨v2, rfl, r2, hb2⟩; have R2 : Hid (Rd w2 v2 L) := r2; have H2 : Hid (Below w.heap.size w w2) := bstep H1.out hb2; clear hb2 r2)
      | (go_at_call 9; refine (k9.out _).mono ?_; rintro e w3 ⟨v3, rfl, r3, hb3⟩; have R3 : Hid (Rd w3 v3 L) := r3; have R23 : Hid (Rd w3 v2 L) := R2.out.below hb3; have H3 : Hid (Below w.heap.size w w3) := bstep H2.out hb3; clear hb3 r3)
      | (go_at_call 10; refine (k10.out _ H3.out).mono ?_; rintro e w4 ⟨rfl, hb4⟩; have H34 : Hid (Below w3.heap.size w3 w4) := hb4; have H4 : Hid (Below w.heap.size w w4) := bstep H3.out hb4; clear hb4)
      | (go_at_call 11; refine (k11.out _ H4.out).mono ?_; rintro e w5 ⟨rfl, hb5⟩; have H35 : Hid (Below w3.heap.size w3 w5) := bstep H34.out hb5; have H5 : Hid (Below w.heap.size w w5) := bstep H4.out hb5; clear hb5)
      | (go_at_call 12; refine (k12.out _).mono ?_; rintro e w6 ⟨v6, rfl, r6, hb6⟩; have R6 : Hid (RdS w6 v6 S) := r6; have H36 : Hid (Below w3.heap.size w3 w6) := bstep H35.out hb6; have H6 : Hid (Below w.heap.size w w6) := bstep H5.out hb6; clear hb6 r6)
      | (go_at_call 13; refine (k13.out _).mono ?_; rintro e w7 ⟨v7, rfl, r7, hb7⟩; have R7 : Hid (RdS w7 v7 S) := r7; have R67 : Hid (RdS w7 v6 S) := R6.out.below hb7; have H37 : Hid (Below w3.heap.size w3 w7) := bstep H36.out hb7; have H7 : Hid (Below w.heap.size w w7) := bstep H6.out hb7; clear hb7 r7)
      | (go_at_call 14; refine (numbers_any _ _ L L _ (R23.out.below H37.out) (R3.out.below H37.out)).mono ?_; rintro e w8 ⟨rfl, hb8⟩; rw [decide_eq_true rfl]; have H78 : Hid (Below w7.heap.size w7 w8) := hb8; have H8 : Hid (Below w.heap.size w w8) := bstep H7.out hb8; clear hb8)
      | (go_at_call 15; refine (sameS_any _ _ S S _ (R67.out.below H78.out) (R7.out.below H78.out)).mono ?_; rintro e w9 ⟨rfl, hb9⟩; rw [decide_eq_true rfl]; have H9 : Hid (Below w.heap.size w w9) := bstep H8.out hb9; clear hb9))
    go_ret
    exact ⟨ret_bool rfl, H9.out⟩
end Go.Proofs.Ytmenkolceahebaa
